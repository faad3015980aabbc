import PyProof.Rows.All
import Wide.All
import OpenK.AllK
import Wide.FinOn
import Lean
import PyProof.EqAt
import PyProof.EqKinds
import PyProof.TupleCall
import PyProof.ConsumeWalk
import PyProof.EqLayable
import PyProof.ReprRoads
import PyProof.StrWalks
import PyProof.SliceStr2
import PyProof.StrLawsIn
import PyProof.StrLawsRepr
import PyProof.SliceList
import PyProof.Rows.FStr
import PyProof.CallStr
import PyProof.Rows.SeqMore
import PyProof.ListStr
import PyProof.Claim2Refuses
import PyProof.Rows.SetFrom
import PyProof.Rows.StrMeet
import PyProof.WalksMore
import PyProof.StrCalls
import PyProof.ListMulRoad
import PyProof.MaxThree
import PyProof.Rows.SumAny
import PyProof.AutoSeq1
import PyProof.StrBlock2
import PyProof.ZipIter
import PyProof.Rows.ZipGen
import PyProof.Rows.CallKwBuiltin
import PyProof.Rows.SortRuns
import KE.KIsAll
import PyProof.DictTruth
import PySem.Challenge.RW_webshapes_k08_nodes_and_ends
set_option Elab.async false
set_option linter.all false
set_option maxRecDepth 100000
set_option maxHeartbeats 4000000
section
open PySem PySem.Spec PyProof.Rows PySem.W
theorem IF:type_of% @wpAny_bind:=@wpAny_bind
theorem IG:type_of% @List.getElem?_eq_getElem:=@List.getElem?_eq_getElem
theorem IH:type_of% @List.length_append:=@List.length_append
theorem II:type_of% @List.length_map:=@List.length_map
theorem IJ:type_of% @wpAny_pure:=@wpAny_pure
theorem IK:type_of% @List.getElem?_eq_some_iff:=@List.getElem?_eq_some_iff
theorem IL:type_of% @List.getElem?_set_ne:=@List.getElem?_set_ne
theorem IM:type_of% @List.getElem?_append_right:=@List.getElem?_append_right
theorem IP:type_of% @List.mem_cons_self:=@List.mem_cons_self
theorem IQ:type_of% @Heap.get?_push_of_some:=@Heap.get?_push_of_some
theorem IS:type_of% @List.mem_append_right:=@List.mem_append_right
theorem IU:type_of% @if_neg:=@if_neg
theorem IV:type_of% @if_pos:=@if_pos
theorem IW:type_of% @List.size_toArray:=@List.size_toArray
theorem IX:type_of% @List.getElem?_map:=@List.getElem?_map
theorem IY:type_of% @Nat.le_refl:=@Nat.le_refl
theorem IZ:type_of% @List.mem_cons_of_mem:=@List.mem_cons_of_mem
theorem Ja:type_of% @List.mem_singleton:=@List.mem_singleton
theorem Jb:type_of% @List.mem_cons:=@List.mem_cons
theorem Jc:type_of% @Heap.lt_size:=@Heap.lt_size
theorem Jd:type_of% @Option.map_eq_some_iff:=@Option.map_eq_some_iff
theorem Je:type_of% @List.getElem?_set_self:=@List.getElem?_set_self
theorem Jf:type_of% @List.length_cons:=@List.length_cons
theorem Jg:type_of% @List.getElem?_append_left:=@List.getElem?_append_left
theorem Jh:type_of% @wpS_pure:=@wpS_pure
theorem Ji:type_of% @List.pairwise_append:=@List.pairwise_append
theorem Jj:type_of% @Bool.false_ne_true:=@Bool.false_ne_true
theorem Jk:type_of% @Heap.get?_push_size:=@Heap.get?_push_size
theorem Jl:type_of% @List.mem_of_getElem?:=@List.mem_of_getElem?
theorem Jm:type_of% @wpS_bind:=@wpS_bind
theorem Jn:type_of% @List.append_assoc:=@List.append_assoc
theorem Jo:type_of% @Nat.lt_of_lt_of_le:=@Nat.lt_of_lt_of_le
theorem Jp:type_of% @List.append_nil:=@List.append_nil
theorem Jq:type_of% @decide_eq_true:=@decide_eq_true
theorem Jr:type_of% @List.mem_append_left:=@List.mem_append_left
theorem Js:type_of% @Nat.ne_of_lt:=@Nat.ne_of_lt
theorem Jt:type_of% @Nat.le_trans:=@Nat.le_trans
theorem Ju:type_of% @List.map_append:=@List.map_append
theorem Jv:type_of% @List.mem_append:=@List.mem_append
theorem Jw:type_of% @List.eq_nil_of_length_eq_zero:=@List.eq_nil_of_length_eq_zero
theorem Jx:type_of% @Bool.and_eq_true:=@Bool.and_eq_true
theorem Jy:type_of% @decide_eq_false:=@decide_eq_false
theorem Jz:type_of% @List.mem_map:=@List.mem_map
theorem JB:type_of% @List.length_set:=@List.length_set
theorem JD:type_of% @beq_iff_eq:=@beq_iff_eq
theorem JH:type_of% @List.getD_eq_getElem?_getD:=@List.getD_eq_getElem?_getD
theorem JJ:type_of% @Array.length_toList:=@Array.length_toList
theorem JK:type_of% @Array.getElem?_eq_getElem:=@Array.getElem?_eq_getElem
theorem JL:type_of% @List.nodup_append:=@List.nodup_append
theorem JM:type_of% @List.pairwise_cons:=@List.pairwise_cons
theorem JN:type_of% @beq_self_eq_true:=@beq_self_eq_true
theorem JQ:type_of% @Option.some.inj:=@Option.some.inj
theorem JR:type_of% @List.length_take:=@List.length_take
theorem JU:type_of% @wpAny_newObj_type:=@wpAny_newObj_type
theorem JV:type_of% @wpAny_mono:=@wpAny_mono
theorem JX:type_of% @wpAny_holding:=@wpAny_holding
theorem JY:type_of% @PySem.W.mg_none_of:=@PySem.W.mg_none_of
theorem JZ:type_of% @Nat.zero_le:=@Nat.zero_le
theorem J0:type_of% @of_decide_eq_true:=@of_decide_eq_true
theorem J1:type_of% @Heap.get?_update_other:=@Heap.get?_update_other
theorem J2:type_of% @List.take_length:=@List.take_length
theorem J3:type_of% @sizeLine_eq:=@sizeLine_eq
theorem J4:type_of% @List.nodup_cons:=@List.nodup_cons
theorem J5:type_of% @wpS_forRange:=@wpS_forRange
theorem J6:type_of% @wpAny_call_entry:=@wpAny_call_entry
theorem J7:type_of% @List.take_of_length_le:=@List.take_of_length_le
theorem J8:type_of% @wpAny_truthy_bool:=@wpAny_truthy_bool
theorem J9:type_of% @List.length_range:=@List.length_range
theorem Ka:type_of% @Heap.get?_update_self:=@Heap.get?_update_self
theorem Kb:type_of% @Array.getElem?_toList:=@Array.getElem?_toList
theorem Kc:type_of% @Nat.lt_irrefl:=@Nat.lt_irrefl
theorem Kd:type_of% @List.Perm.refl:=@List.Perm.refl
theorem Ke:type_of% @wpAny_rule:=@wpAny_rule
theorem Kf:type_of% @Nat.ne_of_gt:=@Nat.ne_of_gt
theorem Kg:type_of% @List.drop_eq_getElem_cons:=@List.drop_eq_getElem_cons
theorem Kh:type_of% @wpAny_setField_rec:=@wpAny_setField_rec
theorem Ki:type_of% @List.length_drop:=@List.length_drop
theorem Kj:type_of% @wpAny_callSpecial?_slot:=@wpAny_callSpecial?_slot
theorem Kk:type_of% @List.filter_cons_of_pos:=@List.filter_cons_of_pos
theorem Kl:type_of% @List.filter_cons_of_neg:=@List.filter_cons_of_neg
theorem Km:type_of% @Int.toNat_natCast:=@Int.toNat_natCast
theorem Ko:type_of% @List.mem_filter:=@List.mem_filter
theorem Kp:type_of% @List.length_nil:=@List.length_nil
theorem Kq:type_of% @wpS_mono:=@wpS_mono
theorem Kr:type_of% @List.set_set:=@List.set_set
theorem Ks:type_of% @Array.getElem?_eq_none:=@Array.getElem?_eq_none
theorem Kt:type_of% @Nat.lt_succ_self:=@Nat.lt_succ_self
theorem Ku:type_of% @List.mem_reverse:=@List.mem_reverse
theorem Kv:type_of% @List.pairwise_reverse:=@List.pairwise_reverse
theorem Kw:type_of% @List.pairwise_iff_getElem:=@List.pairwise_iff_getElem
theorem Kx:type_of% @Classical.byContradiction:=@Classical.byContradiction
theorem Kz:type_of% @wpAny_dictEpoch:=@wpAny_dictEpoch
theorem KA:type_of% @Bool.not_eq_true':=@Bool.not_eq_true'
theorem KC:type_of% @Around.under_plainId:=@Around.under_plainId
theorem KD:type_of% @PySem.F.plainAttrs_list:=@PySem.F.plainAttrs_list
theorem KG:type_of% @Nat.add_sub_cancel_left:=@Nat.add_sub_cancel_left
theorem KH:type_of% @List.not_mem_nil:=@List.not_mem_nil
theorem KI:type_of% @List.map_map:=@List.map_map
theorem KJ:type_of% @codeAny_builtin:=@codeAny_builtin
theorem KL:type_of% @take_snoc:=@take_snoc
theorem KN:type_of% @Bool.true_and:=@Bool.true_and
theorem KO:type_of% @List.mem_iff_getElem?:=@List.mem_iff_getElem?
theorem KP:type_of% @List.length_singleton:=@List.length_singleton
theorem KQ:type_of% @List.getElem?_toArray:=@List.getElem?_toArray
theorem KR:type_of% @List.Perm.append_left:=@List.Perm.append_left
theorem KU:type_of% @Bool.and_eq_false_iff:=@Bool.and_eq_false_iff
theorem KW:type_of% @Nat.lt_succ_of_lt:=@Nat.lt_succ_of_lt
theorem KY:type_of% @Array.getD_eq_getD_getElem?:=@Array.getD_eq_getD_getElem?
theorem KZ:type_of% @bind_congr:=@bind_congr
theorem K0:type_of% @Bool.and_eq_true_iff:=@Bool.and_eq_true_iff
theorem K1:type_of% @Nat.lt_or_ge:=@Nat.lt_or_ge
theorem K2:type_of% @PySem.mem_of_lookup:=@PySem.mem_of_lookup
theorem K3:type_of% @Heap.SameBut.update:=@Heap.SameBut.update
theorem K4:type_of% @or_false:=@or_false
theorem K5:type_of% @if_false:=@if_false
theorem K6:type_of% @List.Perm.eq_of_pairwise:=@List.Perm.eq_of_pairwise
theorem K7:type_of% @wpAny_passesOwn:=@wpAny_passesOwn
theorem K8:type_of% @PySem.W.kia_tup:=@PySem.W.kia_tup
theorem K9:type_of% @PySem.W.kia_one:=@PySem.W.kia_one
theorem La:type_of% @wpS_modify:=@wpS_modify
theorem Lb:type_of% @of_decide_eq_false:=@of_decide_eq_false
theorem Lc:type_of% @List.filter_append:=@List.filter_append
theorem Ld:type_of% @Bool.false_eq_true:=@Bool.false_eq_true
theorem Le:type_of% @wpAny_setState_of:=@wpAny_setState_of
theorem Lf:type_of% @List.reverse_perm:=@List.reverse_perm
theorem Lg:type_of% @List.length_filter_le:=@List.length_filter_le
theorem Lh:type_of% @List.getElem?_eq_none:=@List.getElem?_eq_none
theorem Li:type_of% @wpAny_forIn_list:=@wpAny_forIn_list
theorem Lj:type_of% @List.all_eq_true:=@List.all_eq_true
theorem Ll:type_of% @Array.toList_inj:=@Array.toList_inj
theorem Lm:type_of% @List.any_cons:=@List.any_cons
theorem Ln:type_of% @wpAny_typeNameOfWhole_keyiter:=@wpAny_typeNameOfWhole_keyiter
theorem Lp:type_of% @F.slot_dict_keyiterator_next:=@F.slot_dict_keyiterator_next
theorem Lq:type_of% @List.length_reverse:=@List.length_reverse
theorem Lr:type_of% @Nat.sub_self:=@Nat.sub_self
theorem Ls:type_of% @Nat.le_of_lt:=@Nat.le_of_lt
theorem Lu:type_of% @wpAny_fieldsOf:=@wpAny_fieldsOf
theorem Lv:type_of% @wpAny_Call_Name_kw:=@wpAny_Call_Name_kw
theorem Lw:type_of% @List.zip_cons_cons:=@List.zip_cons_cons
theorem Lx:type_of% @List.perm_ext_iff_of_nodup:=@List.perm_ext_iff_of_nodup
theorem Ly:type_of% @List.lt_irrefl:=@List.lt_irrefl
theorem Lz:type_of% @List.drop_left:=@List.drop_left
theorem LA:type_of% @Bool.not_eq_false':=@Bool.not_eq_false'
theorem LB:type_of% @Array.perm_iff_toList_perm:=@Array.perm_iff_toList_perm
theorem LC:type_of% @wpAny_dictEntries:=@wpAny_dictEntries
theorem LF:type_of% @if_true:=@if_true
theorem LG:type_of% @decide_eq_true_eq:=@decide_eq_true_eq
theorem LH:type_of% @List.pairwise_map:=@List.pairwise_map
theorem LJ:type_of% @List.ext_getElem?:=@List.ext_getElem?
theorem LK:type_of% @Array.toList_push:=@Array.toList_push
theorem LL:type_of% @wpAny_typeNameOf_keyiter:=@wpAny_typeNameOf_keyiter
theorem LM:type_of% @wpAny_attempt:=@wpAny_attempt
theorem LN:type_of% @PySem.F.type_list_append:=@PySem.F.type_list_append
theorem LO:type_of% @PySem.F.slot_list_append:=@PySem.F.slot_list_append
theorem LP:type_of% @List.mem_nil_iff:=@List.mem_nil_iff
theorem LQ:type_of% @List.lookup_cons:=@List.lookup_cons
theorem LR:type_of% @List.getElem_mem:=@List.getElem_mem
theorem LS:type_of% @List.cons_append:=@List.cons_append
theorem LU:type_of% @List.any_eq_true:=@List.any_eq_true
theorem LV:type_of% @wpS_get:=@wpS_get
theorem LW:type_of% @wpAny_specialOf:=@wpAny_specialOf
theorem LX:type_of% @List.length_replicate:=@List.length_replicate
theorem LY:type_of% @List.cons_lt_cons_iff:=@List.cons_lt_cons_iff
end
section
namespace L2
noncomputable abbrev Fg:=PySem.W.Frag
set_option maxRecDepth 100000 in
set_option maxHeartbeats 0 in
theorem ws:PySem.W.OpenLaw.wellSaid PySem.Challenge.rw_webshapes_k08_nodes_and_ends=true:=by decide +kernel
end L2
end
section
namespace L2
open PySem PySem.Spec PyProof.Rows
noncomputable abbrev Key:=Sum Int Str
noncomputable def kH:Key->Value->Bool
 | .inl k,v=>Value.isInt k v
 | .inr x,v=>Value.isStrOf x v
noncomputable def Gw (w:World):Key->Int
 | .inl k=>hashInt k
 | .inr x=>hashStr w x
theorem au:∀ {k:Key} {v:Value},kH k v=true->(∃ i t,k=Sum.inl i/\v=Value.int i t)\/(∃ x t,k=Sum.inr x/\v=Value.str x t)
 | .inl i,v,h=>by
  obtain ⟨t,e⟩:=Value.isInt_shape (k:=i) (v:=v) h;exact .inl ⟨i,t,rfl,e⟩
 | .inr x,v,h=>by
  obtain ⟨t,e⟩:=Value.isStrOf_shape (x:=x) (v:=v) h;exact .inr ⟨x,t,rfl,e⟩
theorem pe (i:Int) (t:Tok):kH (.inl i) (.int i t)=true:=by simp [kH,Value.isInt]
theorem qM (x:Str) (t:Tok):kH (.inr x) (.str x t)=true:=by simp [kH,Value.isStrOf]
theorem A9 (a b:Int):decide ((Sum.inl a:Key)=Sum.inl b)=(a==b):=by
 by_cases e:a=b
 ·subst e;simp
 ·have h:¬(Sum.inl a:Key)=Sum.inl b:=fun q=>e (Sum.inl.inj q);rw [Jy h];exact (beq_eq_false_iff_ne.mpr e).symm
theorem zV (a b:Str):decide ((Sum.inr a:Key)=Sum.inr b)=decide (a=b):=by
 by_cases e:a=b
 ·subst e;simp
 ·have h:¬(Sum.inr a:Key)=Sum.inr b:=fun q=>e (Sum.inr.inj q);rw [Jy h,Jy e]
theorem Ca (a:Int) (b:Str):decide ((Sum.inl a:Key)=Sum.inr b)=false:=Jy (fun q=>nomatch q)
theorem AH (a:Str) (b:Int):decide ((Sum.inr a:Key)=Sum.inl b)=false:=Jy (fun q=>nomatch q)
noncomputable def aM (prog:Program) (w:World):PySem.KeyKind prog w Key where
 is:=kH
 hash:=Gw w
 inj:=fun v a b ha hb=>by
  rcases au ha with ⟨i,t,rfl,rfl⟩ | ⟨x,t,rfl,rfl⟩
  ·rcases au hb with ⟨j,u,rfl,e⟩ | ⟨y,u,rfl,e⟩
   ·injection e with e1 _;rw [e1]
   ·exact nomatch e
  ·rcases au hb with ⟨j,u,rfl,e⟩ | ⟨y,u,rfl,e⟩
   ·exact nomatch e
   ·injection e with e1 _;rw [e1]
 byValue:=fun k v h=>by
  rcases au h with ⟨i,t,rfl,rfl⟩ | ⟨x,t,rfl,rfl⟩ <;> rfl
 pyHash:=fun hv h=>by
  rcases au hv with ⟨i,t,rfl,rfl⟩ | ⟨x,t,rfl,rfl⟩
  ·exact wpAny_pyHash_int h
  ·exact wpAny_pyHash_str h
 eqBool:=fun hu hv h=>by
  rcases au hu with ⟨i,t,rfl,rfl⟩ | ⟨x,t,rfl,rfl⟩
  ·rcases au hv with ⟨j,u,rfl,rfl⟩ | ⟨y,u,rfl,rfl⟩
   ·rw [A9] at h;exact wpAny_eqBool_int h
   ·rw [Ca] at h;exact SeqAt.EqAt.int_str i t y u _ _ _ _ h
  ·rcases au hv with ⟨j,u,rfl,rfl⟩ | ⟨y,u,rfl,rfl⟩
   ·rw [AH] at h;exact SeqAt.EqAt.str_int x t j u _ _ _ _ h
   ·rw [zV] at h;exact wpAny_eqBool_str h
 «strs»:=fun k x t v h=>by
  rcases au h with ⟨i,u,rfl,e⟩ | ⟨y,u,rfl,e⟩
  ·exact nomatch e
  ·injection e with e1 _;subst e1;cases v <;> rfl
theorem lp (prog:Program) (w:World) (i:Int) (t:Tok):(aM prog w).is (.inl i) (.int i t)=true:=pe i t
theorem lr (prog:Program) (w:World) (x:Str) (t:Tok):(aM prog w).is (.inr x) (.str x t)=true:=qM x t
end L2
namespace L2
open PySem PySem.Spec PyProof.Rows
inductive V where
 | non | bl (b:Bool) | int (i:Int) | str (x:Str) | byt (b:Array UInt8) | flt (b:UInt64) | ref (a:Addr) | ty (n:String)
 deriving DecidableEq
noncomputable def RelV:V->Value->Prop
 | .non,u=>u=Value.none
 | .bl b,u=>u=Value.bool b
 | .int i,u=>∃ t,u=Value.int i t
 | .str x,u=>∃ t,u=Value.str x t
 | .byt b,u=>∃ t,u=Value.bytes b t
 | .flt b,u=>∃ t,u=Value.float b t
 | .ref a,u=>u=Value.ref a
 | .ty n,u=>u=Value.type n
noncomputable abbrev Vals:List V->List Value->Prop:=Paired RelV
theorem Vals.length {xs:List V} {us:List Value} (r:Vals xs us):xs.length=us.length:=Paired.length r
theorem Vals.get:∀ {xs:List V} {us:List Value} {i:Nat} {x:V},Vals xs us->xs[i]?=some x->∃ u,us[i]?=some u/\RelV x u
 | _,_,_,_,.nil,e=>by simp at e
 | _,_,0,_,.cons r _,e=>by simp at e;subst e;exact ⟨_,rfl,r⟩
 | _,_,i+1,x,.cons _ t,e=>by
  obtain ⟨u,h1,h2⟩:=Vals.get (i:=i) (x:=x) t (by simpa using e);exact ⟨u,by simpa using h1,h2⟩
theorem Vals.set {x:V} {u:Value} (r:RelV x u):∀ {xs:List V} {us:List Value} (i:Nat),Vals xs us->Vals (xs.set i x) (us.set i u)
 | _,_,_,.nil=>.nil
 | _,_,0,.cons _ t=>.cons r t
 | _,_,i+1,.cons q t=>.cons q (Vals.set r i t)
theorem Vals.append:∀ {xs ys:List V} {us ws:List Value},Vals xs us->Vals ys ws->Vals (xs++ys) (us++ws)
 | _,_,_,_,.nil,s=>s
 | _,_,_,_,.cons r t,s=>.cons r (Vals.append t s)
theorem Vals.take:∀ {xs:List V} {us:List Value} (n:Nat),Vals xs us->Vals (xs.take n) (us.take n)
 | _,_,0,_=>.nil
 | _,_,_+1,.nil=>.nil
 | _,_,n+1,.cons r t=>.cons r (Vals.take n t)
theorem Vals.drop:∀ {xs:List V} {us:List Value} (n:Nat),Vals xs us->Vals (xs.drop n) (us.drop n)
 | _,_,0,r=>r
 | _,_,_+1,.nil=>.nil
 | _,_,n+1,.cons _ t=>Vals.drop n t
noncomputable def F9:Option V->Option Value->Prop
 | some v,some u=>RelV v u
 | none,none=>True
 | _,_=>False
noncomputable def KV {κ:Type}:List (κ×V)->List (κ×Value)->Prop:=Paired fun (p:κ×V) (q:κ×Value)=>p.1=q.1/\RelV p.2 q.2
noncomputable def kV:Key->V
 | .inl i=>.int i
 | .inr x=>.str x
mutual
noncomputable def bp (w:World):PyData->Int
 | .int i=>hashInt i
 | .str x=>hashStr w x
 | .tuple ds=>reduceHash (Builtin.Tuple.tupleHashOf (bF w ds))
 | _=>0
noncomputable def bF (w:World):List PyData->List Int
 | []=>[]
 | d :: ds=>bp w d :: bF w ds
end
noncomputable def yF (w:World) (x:PyData×V×V) (e:DictEntry):Prop:=e.hash=bp w x.1/\RelV x.2.1 e.key/\RelV x.2.2 e.val
inductive HO where
 /-- a list -/
 | lst (xs:List V)
 /-- a tuple (never changes) -/
 | tup (xs:List V)
 /-- a dict whose keys are ints and texts;one whose keys are tuples of ints and texts (the empty one is both) -/
 | dK (kvs:List (Key×V)) | dT (kvs:List (List Key×V))
 /-- a dict by any hashable data: its epoch;the keys as data and as values,what they hold -/
 | dD (ep:Nat) (xs:List (PyData×V×V))
 /-- a set of ints: its members,its size -/
 | set (S:Int->Bool) (n:Nat)
 /-- an instance of the class at C,its dict at dx,its attributes -/
 | ins (C dx:Addr) (fs:List (Str×V))
 /-- the dict of the instance at x -/
 | own (x:Addr)
 /-- the dict of an exception -/
 | xd (fs:List (Str×V))
 /-- a bound method,f of x -/
 | met (f x:Addr)
 /-- a range object lo,lo+1,.. below hi -/
 | rng (lo hi:Int)
 /-- a ai that is known to the object (the script;a dict while a loop walks it): read,never written while it is so -/
 | frz (o:Obj) (u:HO)
 /-- a code object's table -/
 | tbl (ps:Array Value)
 /-- any other ai,by what is true of its one object (a def of one's own: C2 a S n:=HO.ext fun h=>..) -/
 | ext (φ:Heap->Prop)
noncomputable abbrev Hp:=Addr->Option HO
noncomputable def upd (H:Hp) (a:Addr) (o:HO):Hp:=fun b=>if b=a then some o else H b
theorem ag {H:Hp} {a:Addr} {o:HO}:upd H a o a=some o:=by unfold upd;rw [IV rfl]
theorem ae {H:Hp} {a b:Addr} {o:HO} (h:b≠a):upd H a o b=H b:=by unfold upd;rw [IU h]
theorem ax {H:Hp} {a b:Addr} {o:HO} (h:H a=some o) (h':H b=none):a≠b:=by
 intro e;subst e;rw [h] at h';cases h'
section
variable (P:Program) (w:World)
noncomputable def aW (H:Hp) (h:Heap) (a:Addr):HO->Prop
 | .lst xs=>xs.length<=sizeLine/\∃ (its:List Value) (n:Nat),Vals xs its/\h.get? a=some { cls:=.type "list", data:=.seq its.toArray n }
 | .tup xs=>xs.length<=sizeLine/\∃ its:List Value,Vals xs its/\IsTup h a its.toArray
 | .dK kvs=>kvs.length<=sizeLine/\(a==sysModules)=false/\∃ vs,KV kvs vs/\h.DictOf (aM P w) a vs
 | .dT kvs=>kvs.length<=sizeLine/\(a==sysModules)=false/\∃ xs:List (List Key×Addr×Value),
   Paired (fun (p:List Key×V) (q:List Key×Addr×Value)=>p.1=q.1/\H q.2.1=some (.tup (p.1.map kV))/\RelV p.2 q.2.2) kvs xs /\
   ∃ o es ep,h.get? a=some o/\o.ExactDict/\o.data=.dict es ep/\es.toList=xs.map (entryOfKey (tupleKind (aM P w)))/\(xs.map (·.1)).Nodup
 | .dD ep xs=>xs.length<=sizeLine/\(a==sysModules)=false/\(xs.map (·.1)).Nodup/\∃ o es,h.get? a=some o/\o.ExactDict/\o.data=.dict es ep/\Paired (yF w) xs es.toList
 | .set S n=>h.SetOf (intKind P w) a S n
 | .ins C dx fs=>H dx=some (.own a)/\fs.length<=1000/\dx≠a/\h.get? a=some (PySem.W.instObj C dx) /\
   ∃ mA,h.Ns1 dx mA/\(∀ f,F9 (fs.lookup f) (mA f))/\PySem.Within mA (fs.map (·.1))
 | .own _=>∃ o,h.get? a=some o
 | .xd fs=>∃ mA,h.Ns1 a mA/\∀ f,F9 (fs.lookup f) (mA f)
 | .rng lo hi=>∃ t u v,h.get? a=some { cls:=.type "range", data:=.fields #[.int lo t,.int hi u,.int 1 v] }
 | .frz o u=>h.get? a=some o/\aW H h a u
 | .tbl ps=>h.get? a=some { cls:=.none,data:=.fields ps }
 | .met f x=>h.get? a=some (PySem.W.methodObj (.ref f) (.ref x))
 | .ext φ=>φ h/\(∃ o,h.get? a=some o)/\∀ h1 h2:Heap,φ h1->(∀ o,h1.get? a=some o->h2.get? a=some o)->φ h2
noncomputable def HOk (H:Hp) (h:Heap):Prop:=∀ a o,H a=some o->aW P w H h a o
end
section
variable {P:Program} {w:World} {H H':Hp} {h h':Heap} {a:Addr} {o:HO}
theorem aW.lt (x:aW P w H h a o):a < h.objs.size:=by
 cases o with
 | lst xs=>obtain ⟨_,_,_,_,e⟩:=x;exact Jc e
 | tup xs=>obtain ⟨_,_,_,p⟩:=x;exact p.lt
 | dK kvs=>obtain ⟨_,_,_,_,o,_,_,e,_⟩:=x;exact Jc e
 | dT kvs=>obtain ⟨_,_,_,_,o,_,_,e,_⟩:=x;exact Jc e
 | dD ep xs=>obtain ⟨_,_,_,o,_,e,_⟩:=x;exact Jc e
 | set S n=>obtain ⟨o,_,_,_,e,_⟩:=x;exact Jc e
 | ins C dx fs=>obtain ⟨_,_,_,e,_⟩:=x;exact Jc e
 | own y=>obtain ⟨_,e⟩:=x;exact Jc e
 | xd fs=>obtain ⟨_,⟨_,_,_,e,_⟩,_⟩:=x;exact Jc e
 | rng lo hi=>obtain ⟨_,_,_,e⟩:=x;exact Jc e
 | frz ob u=>obtain ⟨e,_⟩:=x;exact Jc e
 | tbl ps=>exact Jc (show h.get? a=some _ from x)
 | met f y=>exact Jc (show h.get? a=some _ from x)
 | ext φ=>obtain ⟨_,⟨_,e⟩,_⟩:=x;exact Jc e
theorem Paired.GQ {α β:Type} {F G:α->β->Prop}:∀ {l₁:List α} {l₂:List β},Paired F l₁ l₂->(∀ a b,F a b->G a b)->Paired G l₁ l₂
 | _,_,.nil,_=>.nil
 | _,_,.cons r t,f=>.cons (f _ _ r) (Paired.GQ t f)
theorem aW.jQ (x:aW P w H h a o) (k:∀ b u,(b=a\/H b=some (.own a))->h.get? b=some u->h'.get? b=some u)
  (ho:∀ b,H b=some (.own a)->H' b=some (.own a)) (ht:∀ b xs,H b=some (.tup xs)->H' b=some (.tup xs)):aW P w H' h' a o:=by
 induction o with
 | lst xs=>obtain ⟨z,its,n,r,e⟩:=x;exact ⟨z,its,n,r,k _ _ (.inl rfl) e⟩
 | tup xs=>obtain ⟨z,its,r,ob,e,c⟩:=x;exact ⟨z,its,r,ob,k _ _ (.inl rfl) e,c⟩
 | dK kvs=>obtain ⟨z,y,vs,r,ob,es,ep,e,c⟩:=x;exact ⟨z,y,vs,r,ob,es,ep,k _ _ (.inl rfl) e,c⟩
 | dT kvs =>
  obtain ⟨z,y,xs,r,ob,es,ep,e,c⟩:=x;exact ⟨z,y,xs,Paired.GQ r fun p q z=>⟨z.1,ht _ _ z.2.1,z.2.2⟩,ob,es,ep,k _ _ (.inl rfl) e,c⟩
 | dD ep xs=>obtain ⟨z,y,nd,ob,es,e,c⟩:=x;exact ⟨z,y,nd,ob,es,k _ _ (.inl rfl) e,c⟩
 | set S n=>obtain ⟨ob,es,ep,t,e,c⟩:=x;exact ⟨ob,es,ep,t,k _ _ (.inl rfl) e,c⟩
 | ins C dx fs =>
  obtain ⟨d,z,ne,e,mA,⟨od,es,ep,e2,c⟩,r⟩:=x;exact ⟨ho _ d,z,ne,k _ _ (.inl rfl) e,mA,⟨od,es,ep,k _ _ (.inr d) e2,c⟩,r⟩
 | own y=>obtain ⟨ob,e⟩:=x;exact ⟨ob,k _ _ (.inl rfl) e⟩
 | xd fs=>obtain ⟨mA,⟨od,es,ep,e,c⟩,r⟩:=x;exact ⟨mA,⟨od,es,ep,k _ _ (.inl rfl) e,c⟩,r⟩
 | rng lo hi=>obtain ⟨t,u,v,e⟩:=x;exact ⟨t,u,v,k _ _ (.inl rfl) e⟩
 | frz ob u ih=>obtain ⟨e,q⟩:=x;exact ⟨k _ _ (.inl rfl) e,ih q⟩
 | tbl ps =>
  have e:h.get? a=some { cls:=.none,data:=.fields ps }:=x;show h'.get? a=some { cls:=.none,data:=.fields ps };exact k a _ (.inl rfl) e
 | met f y =>
  have e:h.get? a=some (PySem.W.methodObj (.ref f) (.ref y)):=x;show h'.get? a=some (PySem.W.methodObj (.ref f) (.ref y));exact k a _ (.inl rfl) e
 | ext φ=>obtain ⟨p,⟨o,e⟩,st⟩:=x;exact ⟨st _ _ p fun o q=>k _ _ (.inl rfl) q,⟨o,k _ _ (.inl rfl) e⟩,st⟩
theorem HOk.lt (x:HOk P w H h) (e:H a=some o):a < h.objs.size:=(x a o e).lt
theorem HOk.fresh (x:HOk P w H h) (e:h.objs.size<=a):H a=none:=by
 cases q:H a with
 | none=>rfl
 | some u=>exact absurd (Jo (x.lt q) e) (Kc _)
theorem HOk.kept (x:HOk P w H h) (k:∀ b u,h.get? b=some u->h'.get? b=some u):HOk P w H h':=fun a o e =>
 (x a o e).jQ (fun b u _ q=>k b u q) (fun _ q=>q) fun _ _ q=>q
theorem HOk.laid (x:HOk P w H h) (k:∀ b u,h.get? b=some u->h'.get? b=some u) (hp:h.objs.size<=a) (new:aW P w (upd H a o) h' a o):HOk P w (upd H a o) h':=fun b u e=>by
 have hn:=x.fresh hp;by_cases hb:b=a
 ·subst hb;rw [ag] at e;cases e;exact new
 ·rw [ae hb] at e;exact (x b u e).jQ (fun c v _ q=>k c v q) (fun c q=>by rw [ae (ax q hn)];exact q) fun c xs q=>by rw [ae (ax q hn)];exact q
end
noncomputable def Rd (H:Hp) (a:Addr) (u:HO):Prop:=H a=some u\/∃ o,H a=some (.frz o u)
theorem Rd.ok {P:Program} {w:World} {H:Hp} {h:Heap} {a:Addr} {u:HO} (r:Rd H a u) (x:HOk P w H h):aW P w H h a u:=by
 rcases r with r | ⟨o,r⟩
 ·exact x a u r
 ·obtain ⟨_,q⟩:=x a _ r;exact q
noncomputable def Mut:Option HO->Prop
 | some (.lst _)=>True
 | some (.dK _)=>True
 | some (.dT _)=>True
 | some (.dD _ _)=>True
 | some (.set _ _)=>True
 | some (.ins _ _ _)=>True
 | some (.ext _)=>True
 | _=>False
section
variable {P:Program} {w:World} {H:Hp} {h h':Heap} {x e:Addr} {o':HO}
theorem HOk.write (ok:HOk P w H h) (mu:Mut (H x)) (he:e=x\/H e=some (.own x)) (k:∀ b u,b≠e->h.get? b=some u->h'.get? b=some u) (heo:∃ u,h'.get? e=some u)
  (new:aW P w (upd H x o') h' x o'):HOk P w (upd H x o') h':=fun b u q=>by
 have nown:∀ c y,H c=some (.own y)->c≠x:=fun c y r z=>by subst z;rw [r] at mu;exact mu
 have ntup:∀ c xs,H c=some (.tup xs)->c≠x:=fun c xs r z=>by subst z;rw [r] at mu;exact mu
 by_cases hb:b=x
 ·subst hb;rw [ag] at q;cases q;exact new
 ·rw [ae hb] at q;by_cases hbe:b=e
  ·have q':H b=some (.own x):=by
    rcases he with z | z
    ·exact absurd (hbe.trans z) hb
    ·rw [hbe];exact z
   rw [q] at q';cases q';obtain ⟨v,hv⟩:=heo;exact ⟨v,by rw [hbe];exact hv⟩
  ·refine (ok b u q).jQ (fun c v hc r=>k c v ?_ r) (fun c r=>by rw [ae (nown c b r)];exact r) fun c xs r=>by rw [ae (ntup c xs r)];exact r
   rcases hc with rfl | hc
   ·exact hbe
   ·rintro rfl;rcases he with z | z
    ·exact nown c b hc z
    ·rw [hc] at z;cases z;exact hb rfl
end
structure Un (fs ex:List Addr) (H H':Hp) (h h':Heap):Prop where
 keep:∀ b o,h.get? b=some o->H b=none->b ∉ fs->b ∉ ex->h'.get? b=some o
 slot:∀ b o,h.get? b=some o->H b=none->b∈fs->b ∉ ex->∃ sl,h'.get? b=some { o with slots:=sl }
 free:∀ b o,h.get? b=some o->H b=none->b ∉ ex->H' b=none
 there:∀ b o,h.get? b=some o->b ∉ ex->∃ o',h'.get? b=some o'
 tq:∀ b xs,H b=some (.tup xs)->H' b=some (.tup xs)
 oG:∀ b o u,H b=some (.frz o u)->H' b=some (.frz o u)
 tN:∀ b ps,H b=some (.tbl ps)->∃ more,H' b=some (.tbl (ps++more))
section
variable {fs fs' ex ex':List Addr} {H H1 H2:Hp} {h h1 h2 h':Heap} {a x e:Addr} {o:HO}
theorem Un.any (u:Un fs ex H H1 h h1) {b:Addr} {ob:Obj} (q:h.get? b=some ob) (n:H b=none) (hx:b ∉ ex):∃ sl,h1.get? b=some { ob with slots:=sl }:=by
 by_cases hb:b∈fs
 ·exact u.slot b ob q n hb hx
 ·exact ⟨ob.slots,u.keep b ob q n hb hx⟩
theorem Un.kept (k:∀ b u,h.get? b=some u->h'.get? b=some u):Un fs ex H H h h' :=
 ⟨fun b ob q _ _ _=>k b ob q,fun b ob q _ _ _=>⟨ob.slots,k b ob q⟩,fun _ _ _ n _=>n,fun b ob q _=>⟨ob,k b ob q⟩,fun _ _ q=>q,fun _ _ _ q=>q,fun _ ps q=>⟨#[],by rw [q];simp⟩⟩
theorem Un.refl:Un fs ex H H h h:=Un.kept fun _ _ q=>q
theorem Un.laid (k:∀ b u,h.get? b=some u->h'.get? b=some u) (hp:h.objs.size<=a) (hn:H a=none):Un fs ex H (upd H a o) h h' where
 keep:=fun b u q _ _ _=>k b u q
 slot:=fun b u q _ _ _=>⟨u.slots,k b u q⟩
 free:=fun b u q n _=>by rw [ae (Js (Jo (Jc q) hp))];exact n
 there:=fun b u q _=>⟨u,k b u q⟩
 tq:=fun b xs q=>by rw [ae (ax q hn)];exact q
 oG:=fun b u xs q=>by rw [ae (ax q hn)];exact q
 tN:=fun b ps q=>⟨#[],by rw [ae (ax q hn),q];simp⟩
theorem Un.write (mu:Mut (H x)) (he:e=x\/H e=some (.own x)) (k:∀ b u,b≠e->h.get? b=some u->h'.get? b=some u) (heo:∃ u,h'.get? e=some u):Un fs ex H (upd H x o) h h':=by
 have hx:∀ b,H b=none->b≠x:=fun b n z=>by subst z;rw [n] at mu;exact mu
 have hb:∀ b,H b=none->b≠e:=fun b n z=>by
  subst z;rcases he with r | r
  ·exact hx b n r
  ·rw [n] at r;cases r
 have hm:∀ b u,H b=some u->¬Mut (some u)->b≠x:=fun b u q nm z=>by subst z;rw [q] at mu;exact nm mu
 refine ⟨fun b u q n _ _=>k b u (hb b n) q,fun b u q n _ _=>⟨u.slots,k b u (hb b n) q⟩,fun b u q n _=>by rw [ae (hx b n)];exact n,fun b u q _=>?_,
  fun b xs q=>by rw [ae (hm b _ q fun z=>z)];exact q,fun b u xs q=>by rw [ae (hm b _ q fun z=>z)];exact q,fun b ps q=>⟨#[],by rw [ae (hm b _ q fun z=>z),q];simp⟩⟩
 by_cases hbe:b=e
 ·subst hbe;exact heo
 ·exact ⟨u,k b u hbe q⟩
end
noncomputable def trk (h:Heap) (H:Hp):List Addr:=(List.range h.objs.size).filter fun a=>(H a).isSome
noncomputable def uz (h:Heap) (H:Hp):Heap:=PySem.W.hideAll h (trk h H)
theorem qL (h:Heap) (H:Hp):(uz h H).objs.size=h.objs.size:=PySem.W.hideAll_size _ _
theorem uF {h:Heap} {H:Hp} {b:Addr} {o:Obj} (e:h.get? b=some o) (n:H b=none):(uz h H).get? b=some o :=
 PySem.W.hideAll_get _ e fun hm=>by
  have q:(H b).isSome=true:=(Ko.mp hm).2;rw [n] at q;simp at q
theorem yu {h:Heap} {H:Hp} {b:Addr} {o:Obj} (e:(uz h H).get? b=some o):h.get? b=some o/\H b=none:=by
 have e':h.get? b=some o:=PySem.W.of_hideAll (trk h H) e;refine ⟨e',?_⟩;cases q:H b with
 | none=>rfl
 | some x =>
  have hm:b∈trk h H:=Ko.mpr ⟨List.mem_range.mpr (Jc e'),by simp [q]⟩;have z:(uz h H).get? b=none:=PySem.W.hideAll_none (trk h H) hm;rw [z] at e;cases e
noncomputable def xS (g h:Heap) (L:Addr):List (Addr×Obj):=(List.range h.objs.size).filterMap fun a=>if a=L\/(g.get? a).isSome=true then none else (h.get? a).map fun o=>(a,o)
noncomputable def rest (g h:Heap) (L d:Addr):List (Addr×Obj):=(xS g h L).filter fun p=>decide (p.1≠d)
end L2
namespace L2
open PySem PySem.Spec PyProof.Rows
structure Mod (K:Fg) (mg:Str->Option Value) (base:Heap):Prop where
 kin:K.In base
 glob:base.Ns mainGlobals mg
 blt:∃ mb,base.Ns builtinsNs mb/\∀ x:Str,x ≠ "__name__" -> mb x=bootBuiltins x
 nolimit:base.NoLimit
structure Cx where
 prog:Program
 w:World
 K:Fg
 mg:Str->Option Value
 base:Heap
 A:Around
 N:List Str
 s₀:Shared
 H₀:Hp
 env:Env
 outer:List Env
 stack:List Env
 ex:List Addr
 fn:Str->Bool
 calm:Bool
 pn:List (Addr×Obj)
 xe:Value->Shared->Prop
noncomputable def frs (l:List Env):List Addr:=l.filterMap (·.frame)
noncomputable abbrev Cx.fs (X:Cx):List Addr:=frs X.outer
noncomputable def Vis (sc:Scope) (x:Str):Prop:=sc.names.lookup x=some .local\/sc.names.lookup x=some .cell\/sc.names.lookup x=some .free
noncomputable def Loc (sc:Scope) (x:Str):Prop:=sc.names.lookup x=some .local\/sc.names.lookup x=some .cell
noncomputable def Look (env:Env) (h:Heap) (m:Str->Option Value) (x:Str) (u:Value):Prop :=
 (env.kindOf x=some .local/\m x=some u)\/((env.kindOf x=some .cell\/env.kindOf x=some .free)/\∃ c,env.cells.lookup x=some c/\h.IsCell c (some u))
structure Cx.Ok (X:Cx):Prop where
 mod:Mod X.K X.mg X.base
 kind:X.env.scope.kind=.function
 glob:X.env.globals=mainGlobals
 blt:X.env.builtins=builtinsNs
 above:X.s₀.heap.objs.size<=X.env.locals
 inj:∀ x y c,X.env.cells.lookup x=some c->X.env.cells.lookup y=some c->x=y
 has:∀ x,(X.env.kindOf x=some .cell\/X.env.kindOf x=some .free)->∃ c,X.env.cells.lookup x=some c
 cab:∀ x c,X.fn x=true->X.env.cells.lookup x=some c->X.s₀.heap.objs.size<=c
 hd:X.calm=true->X.A.handled=none
 frames:X.A.frames=some X.stack
 stk:X.stack=X.outer\/(X.stack=X.env :: X.outer/\X.env.frame=some X.env.locals)
 exf:∀ b∈X.ex,b≠X.env.locals/\∀ x c,X.env.cells.lookup x=some c->c≠b
 bs:∀ b o,X.base.get? b=some o->X.s₀.heap.get? b=some o/\X.H₀ b=none
 bsz:X.base.objs.size<=X.s₀.heap.objs.size
 yx:∀ b o,X.base.get? b=some o->b ∉ X.ex
 zh:∀ b∈X.ex,b ∉ X.fs
 nY:X.s₀.heap.FunFrames X.base X.outer
 frf:∀ b∈X.fs,X.H₀ b=none
structure Inv (X:Cx) (pins:List (Addr×Obj)) (σ:List (Option V)) (H:Hp) (s:Shared):Prop where
 ok:X.Ok
 os:s.os=X.s₀.os
 bare:AllBare s.gens
 base:Un X.fs X.ex X.H₀ H X.s₀.heap s.heap
 loc:∃ m,s.heap.Ns X.env.locals m/\∀ (i:Nat) (x:Str) (v:V),X.N[i]?=some x->σ[i]?=some (some v)->Vis X.env.scope x->∃ u,RelV v u/\Look X.env s.heap m x u
 cell:∀ x c,X.env.cells.lookup x=some c->∃ v,s.heap.IsCell c v
 free:H X.env.locals=none
 d4:∀ x c,X.env.cells.lookup x=some c->H c=none
 pin:∀ p∈X.pn++pins,s.heap.get? p.1=some p.2/\H p.1=none/\p.1≠X.env.locals/\p.1 ∉ X.fs/\∀ v,p.2.data≠.cell v
 hok:HOk X.prog X.w H s.heap
 len:σ.length=X.N.length
section
variable {X:Cx} {pins:List (Addr×Obj)} {σ:List (Option V)} {H H':Hp} {s:Shared} {h':Heap}
theorem Cx.Ok.Ih (ok:X.Ok) {b:Addr} {o:Obj} (e:X.base.get? b=some o):b ∉ X.fs:=fun hb=>by
 have:=(ok.nY.mem hb).1;rw [e] at this;cases this
theorem Inv.bs (I:Inv X pins σ H s):∀ b o,X.base.get? b=some o->s.heap.get? b=some o/\H b=none:=fun b o e =>
 ⟨I.base.keep b o (I.ok.bs b o e).1 (I.ok.bs b o e).2 (I.ok.Ih e) (I.ok.yx b o e),I.base.free b o (I.ok.bs b o e).1 (I.ok.bs b o e).2 (I.ok.yx b o e)⟩
theorem Inv.bk (I:Inv X pins σ H s):∀ b o,X.base.get? b=some o->s.heap.get? b=some o:=fun b o e=>(I.bs b o e).1
theorem Inv.mod (I:Inv X pins σ H s):Mod X.K X.mg X.base:=I.ok.mod
theorem Inv.kIn (I:Inv X pins σ H s):X.K.In s.heap:=I.ok.mod.kin.keeps I.bk
theorem Inv.lt (I:Inv X pins σ H s):X.env.locals < s.heap.objs.size:=let ⟨_,hn,_⟩:=I.loc;hn.lt
theorem Inv.sz (I:Inv X pins σ H s):X.s₀.heap.objs.size<=s.heap.objs.size:=Jt I.ok.above (Ls I.lt)
theorem Inv.C4 (I:Inv X pins σ H s) {a:Addr} (h:s.heap.objs.size<=a):a ∉ X.fs:=fun hb=>by
 obtain ⟨_,o,ho,_⟩:=I.ok.nY.mem hb;exact absurd (Jo (Jc ho) (Jt I.sz h)) (Kc _)
theorem Inv.cne (I:Inv X pins σ H s):∀ x c,X.env.cells.lookup x=some c->c≠X.env.locals:=fun x c e z=>by
 obtain ⟨v,o,ho,hd⟩:=I.cell x c e;obtain ⟨m,⟨o',es,ep,ho',hd',_⟩,_⟩:=I.loc;rw [z,ho'] at ho;cases ho;rw [hd'] at hd;cases hd
theorem Inv.nY (I:Inv X pins σ H s):s.heap.FunFrames X.base X.outer:=by
 have all:∀ (l:List Env),(∀ b∈frs l,b∈X.fs)->X.s₀.heap.FunFrames X.base l->s.heap.FunFrames X.base l:=by
  intro l;induction l with
  | nil=>intro _ _;trivial
  | cons env r ih =>
   intro hs hl;obtain ⟨hk,⟨L,o,hf,hn,ho,hd⟩,hr⟩:=hl;have hL:L∈X.fs:=hs L (by unfold frs;rw [List.filterMap_cons,hf];exact IP);obtain ⟨sl,e⟩:=I.base.slot L o ho (I.ok.frf L hL) hL fun z=>I.ok.zh L z hL;exact ⟨hk,⟨L,_,hf,hn,e,hd⟩,ih (fun b hb=>hs b (by unfold frs;rw [List.filterMap_cons,hf];exact IZ _ hb)) hr⟩
 exact all X.outer (fun _ hb=>hb) I.ok.nY
theorem Inv.stack (I:Inv X pins σ H s):s.heap.FunFrames X.base X.stack:=by
 rcases I.ok.stk with e | ⟨e,hf⟩
 ·rw [e];exact I.nY
 ·rw [e];obtain ⟨m,hn,_⟩:=I.loc;refine .cons (by rw [I.ok.kind];decide) hf hn ?_ I.nY;exact Heap.get?_none_of_le (Jt I.ok.bsz I.ok.above)
theorem Inv.qc (I:Inv X pins σ H s):∀ b∈frs X.stack,b∈X.env.locals :: X.fs:=fun b hb=>by
 rcases I.ok.stk with e | ⟨e,hf⟩
 ·rw [e] at hb;exact IZ _ hb
 ·rw [e] at hb;unfold frs at hb;rw [List.filterMap_cons,hf] at hb;exact hb
theorem Inv.pI (I:Inv X pins σ H s):∀ b∈frs X.stack,H b=none:=fun b hb=>by
 rcases Jb.mp (I.qc b hb) with e | hb
 ·rw [e];exact I.free
 ·obtain ⟨_,o,ho,_⟩:=I.ok.nY.mem hb;exact I.base.free b o ho (I.ok.frf b hb) fun z=>I.ok.zh b z hb
theorem Inv.step {g':Array GenState} {t':Nat} {d':Drawn} {ch:List Addr} (I:Inv X pins σ H s)
  (hch:∀ b∈ch,(b∈X.ex\/X.s₀.heap.objs.size<=b)/\b≠X.env.locals/\(∀ x c,X.env.cells.lookup x=some c->c≠b)/\∀ p∈X.pn++pins,p.1≠b)
  (keep:∀ b o,b≠X.env.locals->b ∉ X.fs->b ∉ ch->s.heap.get? b=some o->H b=none->h'.get? b=some o)
  (slot:∀ b o,b≠X.env.locals->b∈X.fs->b ∉ ch->s.heap.get? b=some o->H b=none->∃ sl,h'.get? b=some { o with slots:=sl }) (free:∀ b o,b ∉ ch->s.heap.get? b=some o->H b=none->H' b=none)
  (there:∀ b o,b ∉ ch->s.heap.get? b=some o->∃ o',h'.get? b=some o')
  (tq:∀ b xs,H b=some (.tup xs)->H' b=some (.tup xs)) (oG:∀ b o u,H b=some (.frz o u)->H' b=some (.frz o u)) (tN:∀ b ps,H b=some (.tbl ps)->∃ more,H' b=some (.tbl (ps++more)))
  (ns:∀ m,s.heap.Ns X.env.locals m->h'.Ns X.env.locals m) (hok:HOk X.prog X.w H' h') (hg:AllBare g') :
  Inv X pins σ H' { s with heap:=h',gens:=g',drawn:=d',toks:=t' }:=by
 have neL:∀ b o,X.s₀.heap.get? b=some o->b≠X.env.locals:=fun b o e=>Js (Jo (Jc e) I.ok.above);have neC:∀ b o,X.s₀.heap.get? b=some o->b ∉ X.ex->b ∉ ch:=fun b o e hx hb=>by
  rcases (hch b hb).1 with z | z
  ·exact hx z
  ·exact absurd (Jo (Jc e) z) (Kc _)
 have cellK:∀ x c,X.env.cells.lookup x=some c->∀ v,s.heap.IsCell c v->h'.IsCell c v:=fun x c e v ⟨o,ho,hd⟩=>by
  have nch:c ∉ ch:=fun z=>(hch c z).2.2.1 x c e rfl;by_cases hc:c∈X.fs
  ·obtain ⟨sl,q⟩:=slot c o (I.cne x c e) hc nch ho (I.d4 x c e);exact ⟨_,q,hd⟩
  ·exact ⟨o,keep c o (I.cne x c e) hc nch ho (I.d4 x c e),hd⟩
 refine ⟨I.ok,I.os,hg,⟨fun b o e n hb hx=>?_,fun b o e n hb hx=>?_,fun b o e n hx=>?_,fun b o e hx=>?_,fun b xs e=>tq b xs (I.base.tq b xs e),fun b o xs e=>oG b o xs (I.base.oG b o xs e),fun b ps e=>?_⟩,?_,fun x c e=>?_,?_,fun x c e=>?_,fun p hp=>?_,hok,I.len⟩
 ·exact keep b o (neL b o e) hb (neC b o e hx) (I.base.keep b o e n hb hx) (I.base.free b o e n hx)
 ·obtain ⟨sl,e1⟩:=I.base.slot b o e n hb hx;obtain ⟨sl',e2⟩:=slot b _ (neL b o e) hb (neC b o e hx) e1 (I.base.free b o e n hx);exact ⟨sl',e2⟩
 ·obtain ⟨o',e1⟩:=I.base.there b o e hx;exact free b o' (neC b o e hx) e1 (I.base.free b o e n hx)
 ·obtain ⟨o',e1⟩:=I.base.there b o e hx;exact there b o' (neC b o e hx) e1
 ·obtain ⟨m1,e1⟩:=I.base.tN b ps e;obtain ⟨m2,e2⟩:=tN b _ e1;exact ⟨m1++m2,by rw [e2,Array.append_assoc]⟩
 ·obtain ⟨m,hn,hl⟩:=I.loc;refine ⟨m,ns m hn,fun i x v e1 e2 e3=>?_⟩;obtain ⟨u,r,l⟩:=hl i x v e1 e2 e3;refine ⟨u,r,?_⟩;rcases l with l | ⟨k,c,e,z⟩
  ·exact .inl l
  ·exact .inr ⟨k,c,e,cellK x c e _ z⟩
 ·obtain ⟨v,z⟩:=I.cell x c e;exact ⟨v,cellK x c e v z⟩
 ·obtain ⟨m,⟨o,_,_,ho,_⟩,_⟩:=I.loc;exact free _ o (fun z=>(hch _ z).2.1 rfl) ho I.free
 ·obtain ⟨v,o,ho,hd⟩:=I.cell x c e;exact free c o (fun z=>(hch c z).2.2.1 x c e rfl) ho (I.d4 x c e)
 ·obtain ⟨e,n,ne,nf,d⟩:=I.pin p hp;have nch:p.1 ∉ ch:=fun z=>(hch p.1 z).2.2.2 p hp rfl;exact ⟨keep p.1 p.2 ne nf nch e n,free p.1 p.2 nch e n,ne,nf,d⟩
theorem Inv.un {t':Nat} (I:Inv X pins σ H s) (u:Un X.fs [] H H' s.heap h') (hok:HOk X.prog X.w H' h'):Inv X pins σ H' { s with heap:=h',toks:=t' }:=by
 obtain ⟨m,⟨o,es,ep,ho,r⟩,_⟩:=id I.loc;obtain ⟨sl,hL⟩:=u.any ho I.free (by simp)
 exact I.step (g':=s.gens) (d':=s.drawn) (ch:=[]) (fun _ z=>nomatch z) (fun b o _ hb _ e n=>u.keep b o e n hb (by simp)) (fun b o _ hb _ e n=>u.slot b o e n hb (by simp)) (fun b o _ e n=>u.free b o e n (by simp)) (fun b o _ e=>u.there b o e (by simp)) u.tq u.oG u.tN (fun m' hm=>by
  obtain ⟨o',es',ep',ho',r'⟩:=hm;rw [ho] at ho';cases ho'
  exact ⟨_,es',ep',hL,r'⟩) hok I.bare
theorem Inv.call {g':Array GenState} {t':Nat} {d':Drawn} {ch:List Addr} (I:Inv X pins σ H s) (u:Un (frs X.stack) ch H H' s.heap h') (hok:HOk X.prog X.w H' h') (hg:AllBare g')
  (hch:∀ b∈ch,(b∈X.ex\/X.s₀.heap.objs.size<=b)/\b≠X.env.locals/\(∀ x c,X.env.cells.lookup x=some c->c≠b)/\∀ p∈X.pn++pins,p.1≠b) :
  Inv X pins σ H' { s with heap:=h',gens:=g',drawn:=d',toks:=t' }:=by
 obtain ⟨m,⟨o,es,ep,ho,r⟩,_⟩:=id I.loc;obtain ⟨sl,hL⟩:=u.any ho I.free fun z=>(hch _ z).2.1 rfl
 exact I.step (ch:=ch) hch (fun b o hL hb hc e n=>u.keep b o e n (fun z=>(Jb.mp (I.qc b z)).elim hL hb) hc) (fun b o _ _ hc e n=>u.any e n hc) (fun b o hc e n=>u.free b o e n hc) (fun b o hc e=>u.there b o e hc) u.tq u.oG u.tN (fun m' hm=>by
  obtain ⟨o',es',ep',ho',r'⟩:=hm;rw [ho] at ho';cases ho'
  exact ⟨_,es',ep',hL,r'⟩) hok hg
theorem Inv.turned {t':Nat} {it:Addr} (I:Inv X pins σ H s) (k:∀ b o,b≠it->s.heap.get? b=some o->h'.get? b=some o) (hn:H it=none) (hL:it≠X.env.locals)
  (h1:it∈X.ex\/X.s₀.heap.objs.size<=it) (h2:∀ x c,X.env.cells.lookup x=some c->c≠it) (h3:∀ p∈X.pn++pins,p.1≠it):Inv X pins σ H { s with heap:=h',toks:=t' }:=by
 have nit:∀ b u,H b=some u->b≠it:=fun b u e z=>by rw [z,hn] at e;cases e
 refine I.step (g':=s.gens) (d':=s.drawn) (ch:=[it]) (fun b hb=>?_) (fun b o _ _ hc e _=>k b o (fun z=>hc (by simp [z])) e) (fun b o _ _ hc e _=>⟨o.slots,k b o (fun z=>hc (by simp [z])) e⟩) (fun _ _ _ _ n=>n)
  (fun b o hc e=>⟨o,k b o (fun z=>hc (by simp [z])) e⟩) (fun _ _ e=>e) (fun _ _ _ e=>e) (fun b ps e=>⟨#[],by rw [e];simp⟩) (fun m hm=>?_) (fun b u e=>?_) I.bare
 ·have e:b=it:=by simpa using hb
  subst e;exact ⟨h1,hL,h2,h3⟩
 ·obtain ⟨o,es,ep,ho,r⟩:=hm;exact ⟨o,es,ep,k _ o (Ne.symm hL) ho,r⟩
 ·refine (I.hok b u e).jQ (fun c v hc q=>k c v ?_ q) (fun _ q=>q) fun _ _ q=>q;rcases hc with z | z
  ·rw [z];exact nit b u e
  ·exact nit c _ z
theorem Inv.tok (I:Inv X pins σ H s) (t:Nat):Inv X pins σ H { s with toks:=t }:=I.un (h':=s.heap) (t':=t) Un.refl I.hok
theorem Inv.kept {t':Nat} (I:Inv X pins σ H s) (k:∀ b u,s.heap.get? b=some u->h'.get? b=some u):Inv X pins σ H { s with heap:=h',toks:=t' }:=I.un (Un.kept k) (I.hok.kept k)
theorem Inv.laid {a:Addr} {o:HO} {t':Nat} (I:Inv X pins σ H s) (k:∀ b u,s.heap.get? b=some u->h'.get? b=some u) (hp:s.heap.objs.size<=a) (new:aW X.prog X.w (upd H a o) h' a o) :
  Inv X pins σ (upd H a o) { s with heap:=h',toks:=t' }:=I.un (Un.laid k hp (I.hok.fresh hp)) (I.hok.laid k hp new)
theorem Inv.write {x e:Addr} {o:HO} {t':Nat} (I:Inv X pins σ H s) (mu:Mut (H x)) (he:e=x\/H e=some (.own x)) (k:∀ b u,b≠e->s.heap.get? b=some u->h'.get? b=some u) (heo:∃ u,h'.get? e=some u)
  (new:aW X.prog X.w (upd H x o) h' x o):Inv X pins σ (upd H x o) { s with heap:=h',toks:=t' }:=I.un (Un.write mu he k heo) (I.hok.write mu he k heo new)
theorem Inv.cB {pins':List (Addr×Obj)} (I:Inv X pins σ H s) (h:∀ p∈pins',s.heap.get? p.1=some p.2/\H p.1=none/\p.1≠X.env.locals/\p.1 ∉ X.fs/\∀ v,p.2.data≠.cell v):Inv X pins' σ H s :=
 ⟨I.ok,I.os,I.bare,I.base,I.loc,I.cell,I.free,I.d4,fun p hp=>(Jv.mp hp).elim (fun z=>I.pin p (Jr _ z)) (h p),I.hok,I.len⟩
theorem md {N:List Str} (hN:N.Nodup) {i j:Nat} {x:Str} (a:N[i]?=some x) (b:N[j]?=some x):i=j:=by
 obtain ⟨h1,e1⟩:=IK.mp a;obtain ⟨h2,e2⟩:=IK.mp b;exact (List.getElem_inj hN).mp (e1.trans e2.symm)
theorem o9 {M:Model} {A:Around} {E:Value->Shared->Prop} {i:Nat} {x:Str} {v:V} {u:Value} {Q:Unit->Shared->Prop} (I:Inv X pins σ H s) (hN:X.N.Nodup) (hi:X.N[i]?=some x) (hx:Loc X.env.scope x) (r:RelV v u)
  (h:∀ s',Inv X pins (σ.set i (some v)) H s'->(∃ a,Heap.SameBut a s.heap s'.heap/\(a=X.env.locals\/X.env.cells.lookup x=some a))->Q () s') (hf:X.fn x=true\/X.env.scope.names.lookup x=some .local:=by first | exact .inl rfl | exact .inr rfl | assumption):wpAny M A (storeName X.env x u) Q E s:=by
 obtain ⟨m,hn,hl⟩:=id I.loc;have hcls:(X.env.scope.kind==.class||(X.env.scope.kind==.module&&X.env.locals != X.env.globals))=false:=by rw [I.ok.kind];rfl
 have hiσ:i < σ.length:=by rw [I.len];exact (IK.mp hi).1
 have cne:=I.cne;have tracked:∀ {a:Addr} {h':Heap},(∃ o,s.heap.get? a=some o/\H a=none)->Heap.SameBut a s.heap h'->HOk X.prog X.w H h':=fun {a h'} ha hs b ob e=>by
  obtain ⟨_,_,hfree⟩:=ha;refine (I.hok b ob e).jQ (fun c w' hc q=>(hs.2 c ?_).trans q) (fun _ q=>q) fun _ _ q=>q;rintro rfl;rcases hc with rfl | hc
  ·rw [hfree] at e;cases e
  ·rw [hfree] at hc;cases hc
 rcases hx with hk | hk
 ·refine wpAny_storeName_local hk hn (fun h' hn' hs=>?_) hcls;obtain ⟨oL,_,_,hoL,_⟩:=id hn;refine h _ ⟨I.ok,I.os,I.bare,⟨fun b o e n hb hx=>?_,fun b o e n hb hx=>?_,I.base.free,fun b o e hx=>?_,I.base.tq,I.base.oG,I.base.tN⟩,⟨_,hn',fun j y v' e1 e2 e3=>?_⟩,fun y c e=>?_,I.free,I.d4,fun p hp=>?_,tracked ⟨oL,hoL,I.free⟩ hs,by simpa using I.len⟩ ⟨_,hs,.inl rfl⟩
  ·exact (hs.2 b (Js (Jo (Jc e) I.ok.above))).trans (I.base.keep b o e n hb hx)
  ·obtain ⟨sl,e1⟩:=I.base.slot b o e n hb hx;exact ⟨sl,(hs.2 b (Js (Jo (Jc e) I.ok.above))).trans e1⟩
  ·obtain ⟨o',e1⟩:=I.base.there b o e hx;exact ⟨o',(hs.2 b (Js (Jo (Jc e) I.ok.above))).trans e1⟩
  ·by_cases hj:j=i
   ·subst hj;rw [hi] at e1;cases e1;rw [Je hiσ] at e2;cases e2;exact ⟨u,r,.inl ⟨hk,by simp⟩⟩
   ·rw [IL (Ne.symm hj)] at e2;obtain ⟨u',r',q⟩:=hl j y v' e1 e2 e3;refine ⟨u',r',?_⟩;rcases q with ⟨k,e⟩ | ⟨k,c,e,z⟩
    ·refine .inl ⟨k,?_⟩;have:y≠x:=fun e=>hj (md hN e1 (e▸hi));simp [this,e]
    ·exact .inr ⟨k,c,e,z.sameBut hs (cne y c e)⟩
  ·obtain ⟨w',z⟩:=I.cell y c e;exact ⟨w',z.sameBut hs (cne y c e)⟩
  ·obtain ⟨e,n,ne,nf,d⟩:=I.pin p hp;exact ⟨(hs.2 p.1 ne).trans e,n,ne,nf,d⟩
 ·have hfn:X.fn x=true:=by
   rcases hf with z | z
   ·exact z
   ·rw [z] at hk;cases hk
  obtain ⟨c,hc⟩:=I.ok.has x (.inl hk);obtain ⟨w',z⟩:=I.cell x c hc;refine wpAny_storeName_cell I.ok.kind hk hc z (fun h' hc' hs=>?_);obtain ⟨oc,hoc,hocd⟩:=id z;refine h { s with heap:=h' } ⟨I.ok,I.os,I.bare,⟨fun b o e n hb hx=>?_,fun b o e n hb hx=>?_,I.base.free,fun b o e hx=>?_,I.base.tq,I.base.oG,I.base.tN⟩,⟨m,hn.sameBut hs (Ne.symm (cne x c hc)),fun j y v' e1 e2 e3=>?_⟩,fun y c' e=>?_,I.free,I.d4,fun p hp=>?_,tracked ⟨oc,hoc,I.d4 x c hc⟩ hs,by simpa using I.len⟩ ⟨c,hs,.inr hc⟩
  ·exact (hs.2 b (Js (Jo (Jc e) (I.ok.cab x c hfn hc)))).trans (I.base.keep b o e n hb hx)
  ·obtain ⟨sl,e1⟩:=I.base.slot b o e n hb hx;exact ⟨sl,(hs.2 b (Js (Jo (Jc e) (I.ok.cab x c hfn hc)))).trans e1⟩
  ·obtain ⟨o',e1⟩:=I.base.there b o e hx;exact ⟨o',(hs.2 b (Js (Jo (Jc e) (I.ok.cab x c hfn hc)))).trans e1⟩
  ·by_cases hj:j=i
   ·subst hj;rw [hi] at e1;cases e1;rw [Je hiσ] at e2;cases e2;exact ⟨u,r,.inr ⟨.inl hk,c,hc,hc'⟩⟩
   ·rw [IL (Ne.symm hj)] at e2;obtain ⟨u',r',q⟩:=hl j y v' e1 e2 e3;refine ⟨u',r',?_⟩;rcases q with q | ⟨k,c',e,z'⟩
    ·exact .inl q
    ·refine .inr ⟨k,c',e,z'.sameBut hs ?_⟩;rintro rfl;exact hj (md hN e1 (I.ok.inj _ _ _ e hc▸hi))
  ·by_cases hcc:c'=c
   ·subst hcc;exact ⟨_,hc'⟩
   ·obtain ⟨w2,z2⟩:=I.cell y c' e;exact ⟨w2,z2.sameBut hs hcc⟩
  ·obtain ⟨e,n,ne,nf,d⟩:=I.pin p hp;refine ⟨(hs.2 p.1 ?_).trans e,n,ne,nf,d⟩;intro q;rw [q,hoc] at e;have q':oc=p.2:=JQ e;exact d w' (by rw [<- q'];exact hocd)
theorem l5 {M:Model} {A:Around} {E:Value->Shared->Prop} {i:Nat} {x:Str} {v:V} {u:Value} {Q:Unit->Shared->Prop} (I:Inv X pins σ H s) (hN:X.N.Nodup) (hi:X.N[i]?=some x) (hx:Loc X.env.scope x) (r:RelV v u)
  (h:∀ s',Inv X pins (σ.set i (some v)) H s'->Q () s') (hf:X.fn x=true\/X.env.scope.names.lookup x=some .local:=by first | exact .inl rfl | exact .inr rfl | assumption):wpAny M A (storeName X.env x u) Q E s :=
 o9 I hN hi hx r (fun s' I' _=>h s' I') hf
end
noncomputable abbrev XK:=Value->Option Addr->Hp->Prop
noncomputable abbrev St:=List (Option V)
noncomputable abbrev VK:=V->Hp->Prop
noncomputable abbrev TE:=St->Hp->VK->Prop
noncomputable abbrev TT:=St->Hp->(Bool->Hp->Prop)->Prop
noncomputable abbrev TA:=St->Hp->(List V->Hp->Prop)->Prop
structure Ends where
 nx:St->Hp->Prop
 rt:VK
 bk:St->Hp->Prop:=fun _ _=>False
 ct:St->Hp->Prop:=fun _ _=>False
noncomputable abbrev TS:=Ends->St->Hp->Prop
noncomputable def EP (X:Cx) (pins:List (Addr×Obj)) (σ:St) (Q:VK) (u:Value) (s':Shared):Prop:=∃ v H',Inv X pins σ H' s'/\RelV v u/\Q v H'
noncomputable def TP (X:Cx) (pins:List (Addr×Obj)) (σ:St) (Q:Bool->Hp->Prop) (b:Bool) (s':Shared):Prop:=∃ H',Inv X pins σ H' s'/\Q b H'
noncomputable def AP (X:Cx) (pins:List (Addr×Obj)) (σ:St) (Q:List V->Hp->Prop) (us:List Value) (s':Shared):Prop:=∃ vs H',Inv X pins σ H' s'/\Vals vs us/\Q vs H'
noncomputable def SP (X:Cx) (pins:List (Addr×Obj)) (D:Ends) (f:Flow) (s':Shared):Prop :=
 match f with
 | .next=>∃ σ' H',Inv X pins σ' H' s'/\D.nx σ' H'
 | .brk=>∃ σ' H',Inv X pins σ' H' s'/\D.bk σ' H'
 | .cont=>∃ σ' H',Inv X pins σ' H' s'/\D.ct σ' H'
 | .ret u=>∃ v σ' H',Inv X pins σ' H' s'/\RelV v u/\D.rt v H'
noncomputable def PE (X:Cx) (e:Expr) (t:TE):Prop :=
 ∀ (pins:List (Addr×Obj)) (s:Shared) (σ:St) (H:Hp) (Q:VK),Inv X pins σ H s->t σ H Q->wpAny (model X.prog X.w) X.A (eval e X.env) (EP X pins σ Q) X.xe s
noncomputable def PT (X:Cx) (e:Expr) (t:TT):Prop :=
 ∀ (pins:List (Addr×Obj)) (s:Shared) (σ:St) (H:Hp) (Q:Bool->Hp->Prop),Inv X pins σ H s->t σ H Q->wpAny (model X.prog X.w) X.A (isTrue e X.env (eval e X.env)) (TP X pins σ Q) X.xe s
noncomputable def PW (X:Cx) (e:Expr) (t:TT):Prop :=
 ∀ (whole:Sem Value) (pins:List (Addr×Obj)) (s:Shared) (σ:St) (H:Hp) (Q:Bool->Hp->Prop),Inv X pins σ H s->t σ H Q->wpAny (model X.prog X.w) X.A (isTrue e X.env whole) (TP X pins σ Q) X.xe s
theorem PW.pt {X:Cx} {e:Expr} {t:TT} (h:PW X e t):PT X e t:=h _
noncomputable def PA (X:Cx) (es:List Expr) (t:TA):Prop :=
 ∀ (pos:Pos) (pins:List (Addr×Obj)) (s:Shared) (σ:St) (H:Hp) (Q:List V->Hp->Prop),Inv X pins σ H s->t σ H Q->wpAny (model X.prog X.w) X.A (spliced (backTo pos (starEach es X.env))) (AP X pins σ Q) X.xe s
noncomputable def PS (X:Cx) (st:Stmt) (t:TS):Prop :=
 ∀ (pins:List (Addr×Obj)) (s:Shared) (σ:St) (H:Hp) (D:Ends),Inv X pins σ H s->t D σ H->wpAny (model X.prog X.w) X.A (exec st X.env) (SP X pins D) X.xe s
noncomputable def PSs (X:Cx) (st:List Stmt) (t:TS):Prop :=
 ∀ (pins:List (Addr×Obj)) (s:Shared) (σ:St) (H:Hp) (D:Ends),Inv X pins σ H s->t D σ H->wpAny (model X.prog X.w) X.A (execs st X.env) (SP X pins D) X.xe s
theorem thn {α:Type} {t:Sem α} {Q Q':α->Shared->Prop} {M:Model} {A:Around} {E:Value->Shared->Prop} {s:Shared} (h:wpAny M A t Q E s) (hQ:∀ a s,Q a s->Q' a s):wpAny M A t Q' E s:=JV h hQ fun _ _ x=>x
end L2
namespace L2
open PySem PySem.Spec PyProof.Rows
section
variable {X:Cx}
theorem bin {a b:Expr} {ta tb:TE} (ha:PE X a ta) (hb:PE X b tb) {pins:List (Addr×Obj)} {s:Shared} {σ:St} {H:Hp} {R:V->V->Hp->Prop} (I:Inv X pins σ H s) (h:ta σ H fun x H1=>tb σ H1 fun y H2=>R x y H2)
  {α:Type} {Q:α->Shared->Prop} {f:Value->Value->Sem α}
  (hf:∀ v u s2 x y H2,Inv X pins σ H2 s2->RelV x v->RelV y u->R x y H2->wpAny (model X.prog X.w) X.A (f v u) Q X.xe s2) :
  wpAny (model X.prog X.w) X.A (eval a X.env) (fun v s₁=>wpAny (model X.prog X.w) X.A (eval b X.env) (fun u s₂=>wpAny (model X.prog X.w) X.A (f v u) Q X.xe s₂) X.xe s₁) X.xe s:=by
 refine thn (ha pins s σ H _ I h) fun v s1 ⟨x,H1,I1,r1,q1⟩=>?_;refine thn (hb pins s1 σ H1 _ I1 q1) fun u s2 ⟨y,H2,I2,r2,q2⟩=>?_;exact hf v u s2 x y H2 I2 r1 r2 q2
noncomputable def ug (i:Nat):TE:=fun σ H Q=>∃ v,σ[i]?=some (some v)/\Q v H
noncomputable def tC (v:V):TE:=fun _ H Q=>Q v H
theorem BX {i:Nat} {x:Str} {pos:Pos} (hN:X.N[i]?=some x) (hv:Vis X.env.scope x) (hd:(x==("__debug__" : Str))=false:=by decide) (hcd:(x==("__classdict__" : Str))=false:=by decide):PE X (.Name x pos) (ug i):=by
 intro pins s σ H Q I h;obtain ⟨v,e,h⟩:=h;obtain ⟨m,hn,hl⟩:=I.loc;obtain ⟨u,r,l⟩:=hl i x v hN e hv;have fin:EP X pins σ Q u s:=⟨v,H,I,r,h⟩;rcases l with ⟨hk,hm⟩ | ⟨hk,c,hc,hcell⟩
 ·exact wpAny_Name (wpAny_loadName_local I.ok.kind hk hn hm fin) hd
 ·rcases hk with hk | hk
  ·exact wpAny_Name (wpAny_loadName_cell I.ok.kind hk hc hcell fin) hd
  ·exact wpAny_Name (wpAny_loadName_free I.ok.kind hk hc hcell fin hcd) hd
theorem Ae {i j pos}:PE X (.Constant (.int i) j pos) (tC (.int i)):=fun _ _ _ H _ I h=>wpAny_Constant_int ⟨.int i,H,I.tok _,⟨_,rfl⟩,h⟩
theorem EA {b j pos}:PE X (.Constant (.bool b) j pos) (tC (.bl b)):=fun _ _ _ H _ I h=>Constant_bool ⟨.bl b,H,I,rfl,h⟩
theorem Ay {x j pos}:PE X (.Constant (.str x) j pos) (tC (.str x)):=fun _ _ _ H _ I h=>Calls.Constant_str ⟨.str x,H,I.tok _,⟨_,rfl⟩,h⟩
noncomputable def Gl (X:Cx) (x:Str):Prop:=X.env.kindOf x=some .globalImplicit
theorem sG {E:Value->Shared->Prop} {pins:List (Addr×Obj)} {s:Shared} {σ:St} {H:Hp} {x:Str} {u:Value} {pos:Pos} {Q:Value->Shared->Prop} (I:Inv X pins σ H s) (hg:Gl X x) (hm:X.mg x=some u) (h:Q u s)
  (hd:(x==("__debug__" : Str))=false:=by decide):wpAny (model X.prog X.w) X.A (eval (.Name x pos) X.env) Q E s :=
 Calls.Name_function_global I.ok.kind hg (Calls.loadGlobal_global (by rw [I.ok.glob];exact I.mod.glob.keeps I.bk) hm h) hd
theorem hG {E:Value->Shared->Prop} {pins:List (Addr×Obj)} {s:Shared} {σ:St} {H:Hp} {x:Str} {u:Value} {pos:Pos} {Q:Value->Shared->Prop} (I:Inv X pins σ H s) (hg:Gl X x) (hm:X.mg x=none) (hv:bootBuiltins x=some u) (h:Q u s)
  (hn:x ≠ "__name__" := by decide) (hd:(x==("__debug__" : Str))=false:=by decide):wpAny (model X.prog X.w) X.A (eval (.Name x pos) X.env) Q E s:=by
 obtain ⟨mb,h1,h2⟩:=I.mod.blt;exact Calls.Name_function_global I.ok.kind hg (Calls.loadGlobal_builtin (by rw [I.ok.glob];exact I.mod.glob.keeps I.bk) hm (by rw [I.ok.blt];exact h1.keeps I.bk) ((h2 x hn).trans hv) h) hd
theorem pJ {x:Str} {v:V} {u:Value} {pos:Pos} (hg:Gl X x) (hm:X.mg x=some u) (r:RelV v u) (hd:(x==("__debug__" : Str))=false:=by decide):PE X (.Name x pos) (tC v) :=
 fun _ _ _ H _ I h=>sG I hg hm ⟨v,H,I,r,h⟩ hd
theorem yR {x:Str} {v:V} {u:Value} {pos:Pos} (hg:Gl X x) (hm:X.mg x=none) (hv:bootBuiltins x=some u) (r:RelV v u) (hn:x ≠ "__name__" := by decide) (hd:(x==("__debug__" : Str))=false:=by decide):PE X (.Name x pos) (tC v) :=
 fun _ _ _ H _ I h=>hG I hg hm hv ⟨v,H,I,r,h⟩ hn hd
variable {a b:Expr} {ta tb:TE} {pos:Pos}
noncomputable def PC (X:Cx) (op:CmpOp) (a b:Expr) (t:TE):Prop :=
 ∀ (pins:List (Addr×Obj)) (s:Shared) (σ:St) (H:Hp) (Q:VK),Inv X pins σ H s->t σ H Q ->
  wpAny (model X.prog X.w) X.A (eval a X.env) (fun v s₁=>wpAny (model X.prog X.w) X.A (eval b X.env) (fun u s₂=>wpAny (model X.prog X.w) X.A (compareOp op v u) (EP X pins σ Q) X.xe s₂) X.xe s₁) X.xe s
theorem uk (b:Expr) {op:CmpOp} (h:op≠.In) (h2:op≠.NotIn):behindInMarks op b=false:=by
 have e1:(op==CmpOp.In)=false:=by cases op <;> first | rfl | exact absurd rfl h
 have e2:(op==CmpOp.NotIn)=false:=by cases op <;> first | rfl | exact absurd rfl h2
 cases b <;> simp [behindInMarks,e1,e2]
noncomputable def tB (t:TE):TT:=fun σ H Q=>t σ H fun x H1=>∃ c,x=.bl c/\Q c H1
theorem GN {op:CmpOp} {t:TE} (h:PC X op a b t) (h1:behindInMarks op b=false:=by first | exact uk _ (by decide) (by decide) | rfl):PT X (.Compare a [op] [b] pos) (tB t):=by
 intro pins s σ H Q I hw;refine wpAny_isTrue_Compare1 (thn (h pins s σ H _ I hw) fun v s1 h1=>thn h1 fun u s2 h2=>thn h2 fun c s3 ⟨x,H1,I1,r1,q1⟩=>?_) h1;obtain ⟨d,rfl,q⟩:=q1;cases r1;exact J8 ⟨H1,I1,q⟩
theorem Bu {e:Expr} {t:TE} (h:PE X e t) (he:∀ whole,isTrue e X.env whole=(do let v<-whole;standAt e.pos;holding [v] (truthy v)):=by intro _;rfl):PT X e (tB t):=by
 intro pins s σ H Q I hw;refine isTrue_plain (thn (h pins s σ H _ I hw) fun v s1 ⟨x,H1,I1,r1,q1⟩=>?_) (he _);obtain ⟨d,rfl,q⟩:=q1;cases r1;exact J8 ⟨H1,I1,q⟩
variable {tA tB':TT} {rest:List Expr}
noncomputable def FO (t u:TT):TT:=fun σ H Q=>t σ H fun c H1=>if c=true then u σ H1 Q else Q false H1
noncomputable def tOr (t u:TT):TT:=fun σ H Q=>t σ H fun c H1=>if c=true then Q true H1 else u σ H1 Q
noncomputable def E2 (t:TT):TT:=fun σ H Q=>t σ H fun c H1=>Q (!c) H1
theorem pw_and1 (ha:PT X a tA):PW X (.BoolOp .And [a] pos) tA:=by
 intro wh pins s σ H Q I h;refine isTrue_and (thn (ha pins s σ H Q I h) fun c s1 e=>?_);cases c with
 | true=>exact isTrue_and_nil e
 | false=>exact e
theorem pw_or1 (ha:PT X a tA):PW X (.BoolOp .Or [a] pos) tA:=by
 intro wh pins s σ H Q I h;refine isTrue_or (thn (ha pins s σ H Q I h) fun c s1 e=>?_);cases c with
 | false=>exact isTrue_or_nil e
 | true=>exact e
theorem pw_and (ha:PT X a tA) (hb:PW X (.BoolOp .And (b :: rest) pos) tB'):PW X (.BoolOp .And (a :: b :: rest) pos) (FO tA tB'):=by
 intro wh pins s σ H Q I h;refine isTrue_and (thn (ha pins s σ H _ I h) fun c s1 ⟨H1,I1,q1⟩=>?_);cases c with
 | true=>exact hb wh pins s1 σ H1 Q I1 q1
 | false=>exact ⟨H1,I1,q1⟩
theorem pw_or (ha:PT X a tA) (hb:PW X (.BoolOp .Or (b :: rest) pos) tB'):PW X (.BoolOp .Or (a :: b :: rest) pos) (tOr tA tB'):=by
 intro wh pins s σ H Q I h;refine isTrue_or (thn (ha pins s σ H _ I h) fun c s1 ⟨H1,I1,q1⟩=>?_);cases c with
 | true=>exact ⟨H1,I1,q1⟩
 | false=>exact hb wh pins s1 σ H1 Q I1 q1
theorem Cn (ha:PT X a tA):PT X (.UnaryOp .Not a pos) (E2 tA):=by
 intro pins s σ H Q I h;exact isTrue_not (ha pins s σ H (fun c H1=>Q (!c) H1) I h)
noncomputable def yk (ta tb:TE):TE:=fun σ H Q=>ta σ H fun x H1=>∃ c,x=.bl c/\if c=true then tb σ H1 Q else Q (.bl false) H1
noncomputable def D8 (ta tb:TE):TE:=fun σ H Q=>ta σ H fun x H1=>∃ c,x=.bl c/\if c=true then Q (.bl true) H1 else tb σ H1 Q
noncomputable def ya (ta:TE):TE:=fun σ H Q=>ta σ H fun x H1=>∃ c,x=.bl c/\Q (.bl (!c)) H1
theorem AO {op} {t:TE} (h:PE X a t):PE X (.BoolOp op [a] pos) t:=fun pins s σ H Q I hw=>BoolOp_one (h pins s σ H Q I hw)
theorem BM (ha:PE X a ta) (hb:PE X (.BoolOp .And (b :: rest) pos) tb):PE X (.BoolOp .And (a :: b :: rest) pos) (yk ta tb):=by
 intro pins s σ H Q I h;refine BoolOp_and (thn (ha pins s σ H _ I h) fun v s1 ⟨x,H1,I1,r1,q1⟩=>?_);obtain ⟨c,rfl,q1⟩:=q1;cases r1;refine J8 ?_;cases c with
 | true=>exact hb pins s1 σ H1 Q I1 q1
 | false=>exact ⟨.bl false,H1,I1,rfl,q1⟩
theorem EL (ha:PE X a ta) (hb:PE X (.BoolOp .Or (b :: rest) pos) tb):PE X (.BoolOp .Or (a :: b :: rest) pos) (D8 ta tb):=by
 intro pins s σ H Q I h;refine BoolOp_or (thn (ha pins s σ H _ I h) fun v s1 ⟨x,H1,I1,r1,q1⟩=>?_);obtain ⟨c,rfl,q1⟩:=q1;cases r1;refine J8 ?_;cases c with
 | false=>exact hb pins s1 σ H1 Q I1 q1
 | true=>exact ⟨.bl true,H1,I1,rfl,q1⟩
theorem A6 (ha:PE X a ta):PE X (.UnaryOp .Not a pos) (ya ta):=by
 intro pins s σ H Q I h;refine UnaryOp_ (thn (ha pins s σ H _ I h) fun v s1 ⟨x,H1,I1,r1,q1⟩=>?_);obtain ⟨c,rfl,q1⟩:=q1;cases r1;exact not_of (J8 ⟨.bl (!c),H1,I1,rfl,q1⟩)
noncomputable def tIf (t:TT) (ta tb:TE):TE:=fun σ H Q=>t σ H fun c H1=>if c=true then ta σ H1 Q else tb σ H1 Q
theorem vd {c:Expr} (hc:PT X c tA) (ha:PE X a ta) (hb:PE X b tb):PE X (.IfExp c a b pos) (tIf tA ta tb):=by
 intro pins s σ H Q I h;refine wpAny_IfExp (thn (hc pins s σ H _ I h) fun d s1 ⟨H1,I1,q1⟩=>?_);cases d with
 | true=>exact ha pins s1 σ H1 Q I1 q1
 | false=>exact hb pins s1 σ H1 Q I1 q1
end
end L2
namespace L2
open PySem PySem.Spec PyProof.Rows
noncomputable def SqL (K:Fg) (H:Hp) (a:Addr) (xs:List V):Prop :=
 Rd H a (.lst xs) \/
  ∃ (o:Obj) (its:Array Value) (n:Nat),K.lookup a=some o/\o.cls=.type "list" /\ o.dict=none/\o.data=.seq its n/\its.size<=sizeLine/\Vals xs its.toList
noncomputable def SqT (K:Fg) (H:Hp) (a:Addr) (xs:List V):Prop :=
 Rd H a (.tup xs) \/
  ∃ (o:Obj) (its:Array Value) (n:Nat),K.lookup a=some o/\o.cls=.type "tuple" /\ o.data=.seq its n/\its.size<=sizeLine/\Vals xs its.toList
noncomputable def Iq:Value->Option V
 | .none=>some .non
 | .bool b=>some (.bl b)
 | .int i _=>some (.int i)
 | .str x _=>some (.str x)
 | .bytes b _=>some (.byt b)
 | .float b _=>some (.flt b)
 | .ref a=>some (.ref a)
 | .type n=>some (.ty n)
 | _=>none
theorem RelV.abs {x:V} {u:Value} (r:RelV x u):Iq u=some x:=by
 cases x with
 | non=>cases r;rfl
 | bl _=>cases r;rfl
 | int _=>obtain ⟨t,rfl⟩:=r;rfl
 | str _=>obtain ⟨t,rfl⟩:=r;rfl
 | byt _=>obtain ⟨t,rfl⟩:=r;rfl
 | flt _=>obtain ⟨t,rfl⟩:=r;rfl
 | ref _=>cases r;rfl
 | ty _=>cases r;rfl
theorem RelV.inj {x y:V} {u:Value} (r:RelV x u) (q:RelV y u):x=y:=JQ (r.abs.symm.trans q.abs)
theorem Vals.inj:∀ {xs ys:List V} {us:List Value},Vals xs us->Vals ys us->xs=ys
 | _,_,_,.nil,.nil=>rfl
 | _,_,_,.cons r t,.cons r' t'=>by rw [r.inj r',Vals.inj t t']
section
variable {X:Cx} {pins:List (Addr×Obj)} {σ:St} {H:Hp} {s:Shared} {a:Addr} {xs ys:List V}
theorem SqT.of {K:Fg} (h:H a=some (.tup xs)):SqT K H a xs:=.inl (.inl h)
theorem Inv.list (I:Inv X pins σ H s) (h:SqL X.K H a xs):∃ its:List Value,Vals xs its/\PlainL s.heap a its.toArray/\xs.length<=sizeLine:=by
 rcases h with h | ⟨o,its,n,hk,hc,hd,hs,hz,r⟩
 ·obtain ⟨z,its,n,r,e⟩:=h.ok I.hok;exact ⟨its,r,⟨_,n,e,rfl,rfl,rfl⟩,z⟩
 ·refine ⟨its.toList,r,⟨o,n,I.kIn a o hk,hc,hd,by simpa using hs⟩,?_⟩;have e:=r.length;simp only [JJ] at e;omega
theorem Inv.tuple (I:Inv X pins σ H s) (h:SqT X.K H a xs):∃ its:List Value,Vals xs its/\IsTup s.heap a its.toArray/\xs.length<=sizeLine:=by
 rcases h with h | ⟨o,its,n,hk,hc,hs,hz,r⟩
 ·obtain ⟨z,its,r,p⟩:=h.ok I.hok;exact ⟨its,r,p,z⟩
 ·refine ⟨its.toList,r,⟨o,I.kIn a o hk,hc,n,by simpa using hs⟩,?_⟩;have e:=r.length;simp only [JJ] at e;omega
theorem Inv.uD (I:Inv X pins σ H s) (h:SqL X.K H a xs) (h':SqL X.K H a ys):xs=ys:=by
 obtain ⟨its,r,⟨o,n,e,_,_,d⟩,_⟩:=I.list h;obtain ⟨its',r',⟨o',n',e',_,_,d'⟩,_⟩:=I.list h';rw [e] at e';cases e';rw [d] at d';injection d' with d1 _;have:its=its':=by simpa using congrArg Array.toList d1
 subst this;exact r.inj r'
theorem Inv.oE (I:Inv X pins σ H s) (h:SqT X.K H a xs) (h':SqT X.K H a ys):xs=ys:=by
 obtain ⟨its,r,⟨o,e,_,n,d⟩,_⟩:=I.tuple h;obtain ⟨its',r',⟨o',e',_,n',d'⟩,_⟩:=I.tuple h';rw [e] at e';cases e';rw [d] at d';injection d' with d1 _;have:its=its':=by simpa using congrArg Array.toList d1
 subst this;exact r.inj r'
end
noncomputable abbrev Cx.tD (X:Cx) (E:Value->Shared->Prop):Cx:={ X with xe:=E }
noncomputable abbrev Cx.nox (X:Cx):Cx:=X.tD fun _ _=>False
theorem Cx.Ok.tD {X:Cx} (ok:X.Ok) (E:Value->Shared->Prop):(X.tD E).Ok :=
 ⟨ok.mod,ok.kind,ok.glob,ok.blt,ok.above,ok.inj,ok.has,ok.cab,ok.hd,ok.frames,ok.stk,ok.exf,ok.bs,ok.bsz,ok.yx,ok.zh,ok.nY,ok.frf⟩
theorem Cx.Ok.eO {X:Cx} {E:Value->Shared->Prop} (ok:(X.tD E).Ok):X.Ok :=
 ⟨ok.mod,ok.kind,ok.glob,ok.blt,ok.above,ok.inj,ok.has,ok.cab,ok.hd,ok.frames,ok.stk,ok.exf,ok.bs,ok.bsz,ok.yx,ok.zh,ok.nY,ok.frf⟩
section
variable {X:Cx} {pins:List (Addr×Obj)} {σ:St} {H:Hp} {s:Shared} {E:Value->Shared->Prop}
theorem Inv.tD (I:Inv X pins σ H s) (E:Value->Shared->Prop):Inv (X.tD E) pins σ H s:=⟨I.ok.tD E,I.os,I.bare,I.base,I.loc,I.cell,I.free,I.d4,I.pin,I.hok,I.len⟩
theorem Inv.eO (I:Inv (X.tD E) pins σ H s):Inv X pins σ H s:=⟨I.ok.eO,I.os,I.bare,I.base,I.loc,I.cell,I.free,I.d4,I.pin,I.hok,I.len⟩
theorem SP.eO {D:Ends} {f:Flow} {s':Shared} (h:SP (X.tD E) pins D f s'):SP X pins D f s':=by
 cases f with
 | next=>obtain ⟨σ',H',I,q⟩:=h;exact ⟨σ',H',I.eO,q⟩
 | brk=>obtain ⟨σ',H',I,q⟩:=h;exact ⟨σ',H',I.eO,q⟩
 | cont=>obtain ⟨σ',H',I,q⟩:=h;exact ⟨σ',H',I.eO,q⟩
 | ret u=>obtain ⟨v,σ',H',I,r,q⟩:=h;exact ⟨v,σ',H',I.eO,r,q⟩
theorem PSs.nox {st:List Stmt} {t:TS} (h:PSs X.nox st t):PSs X st t:=fun pins s σ H D I hw =>
 JV (h pins s σ H D (I.tD _) hw) (fun _ _ q=>q.eO) fun _ _ z=>False.elim z
end
section
variable {X:Cx} {st:Stmt} {rest:List Stmt} {t u:TS} {e:Expr} {te:TE} {pos:Pos}
noncomputable def xU:TS:=fun D σ H=>D.nx σ H
noncomputable def DX (t u:TS):TS:=fun D σ H=>t { D with nx:=u D } σ H
theorem xw:PSs X [] xU:=fun _ _ σ H _ I h=>wpAny_execs_nil ⟨σ,H,I,h⟩
theorem tL (h1:PS X st t) (h2:PSs X rest u):PSs X (st :: rest) (DX t u):=by
 intro pins s σ H D I h;refine wpAny_execs_cons (thn (h1 pins s σ H { D with nx:=u D } I h) fun f s1 q=>?_);cases f with
 | next =>
  obtain ⟨σ',H',I',q⟩:=q;exact h2 pins s1 σ' H' D I' q
 | ret v=>exact q
 | brk=>exact q
 | cont=>exact q
theorem xZ (h1:PS X st t):PSs X [st] t:=by
 intro pins s σ H D I h;refine wpAny_execs_cons (thn (h1 pins s σ H D I h) fun f s1 q=>?_);cases f with
 | next=>exact wpAny_execs_nil q
 | ret v=>exact q
 | brk=>exact q
 | cont=>exact q
noncomputable def Bt:TS:=fun D σ H=>D.bk σ H
noncomputable def Gb:TS:=fun D σ H=>D.ct σ H
theorem Inv.quiet {pins:List (Addr×Obj)} {σ:St} {H:Hp} {s:Shared} (I:Inv X pins σ H s):interactive X.env=false:=by simp [interactive,I.ok.kind]
noncomputable def yY (te:TE):TS:=fun D σ H=>te σ H fun _ H1=>D.nx σ H1
theorem xb (he:PE X e te) (hs:swapsWith e none pos.line X.env=pure false:=by rfl):PS X (.Expr e pos) (yY te):=by
 intro pins s σ H D I h;exact wpAny_Expr_any (thn (he pins s σ H _ I h) fun v s1 ⟨x,H1,I1,r1,q1⟩=>⟨σ,H1,I1,q1⟩) I.quiet hs
noncomputable def Ef (te:TE):TS:=fun D σ H=>te σ H D.rt
theorem zM (he:PE X e te):PS X (.Return (some e) pos) (Ef te):=by
 intro pins s σ H D I h;exact wpAny_Return_some (thn (he pins s σ H _ I h) fun v s1 ⟨x,H1,I1,r1,q1⟩=>⟨x,σ,H1,I1,r1,q1⟩)
noncomputable def FN:TS:=fun D _ H=>D.rt .non H
noncomputable def Gj (c:TT) (t u:TS):TS:=fun D σ H=>c σ H fun b H1=>if b=true then t D σ H1 else u D σ H1
theorem Fx {c:Expr} {a b:List Stmt} {tc:TT} (hc:PT X c tc) (ha:PSs X a t) (hb:PSs X b u):PS X (.If c a b pos) (Gj tc t u):=by
 intro pins s σ H D I h;refine wpAny_If (thn (hc pins s σ H _ I h) fun d s1 ⟨H1,I1,q1⟩=>?_);cases d with
 | true=>exact ha pins s1 σ H1 D I1 q1
 | false=>exact hb pins s1 σ H1 D I1 q1
noncomputable def vQ:TS:=fun _ _ _=>False
end
noncomputable abbrev TG:=V->St->Hp->(St->Hp->Prop)->Prop
noncomputable abbrev TGs:=List V->St->Hp->(St->Hp->Prop)->Prop
noncomputable def PG (X:Cx) (target:Expr) (t:TG):Prop :=
 ∀ (pins:List (Addr×Obj)) (s:Shared) (σ:St) (H:Hp) (v:V) (u:Value) (Q:St->Hp->Prop),Inv X pins σ H s->RelV v u->t v σ H Q ->
  wpAny (model X.prog X.w) X.A (assign target X.env u) (fun _ s'=>∃ σ' H',Inv X pins σ' H' s'/\Q σ' H') X.xe s
noncomputable def PGs (X:Cx) (ts:List Expr) (t:TGs):Prop :=
 ∀ (pins:List (Addr×Obj)) (s:Shared) (σ:St) (H:Hp) (vs:List V) (us:List Value) (Q:St->Hp->Prop),Inv X pins σ H s->Vals vs us->t vs σ H Q ->
  wpAny (model X.prog X.w) X.A (assignInOrder ((assignEach ts X.env).map (·.2)) us) (fun _ s'=>∃ σ' H',Inv X pins σ' H' s'/\Q σ' H') X.xe s
noncomputable abbrev CJ:=V->V->V->Hp->(Hp->Prop)->Prop
noncomputable def ET (X:Cx) (t:CJ):Prop :=
 ∀ (pins:List (Addr×Obj)) (s:Shared) (σ:St) (H:Hp) (o i v:V) (ov iv u:Value) (Q:Hp->Prop),Inv X pins σ H s->RelV o ov->RelV i iv->RelV v u->t o i v H Q ->
  wpAny (model X.prog X.w) X.A (setItem ov iv u) (fun _ s'=>∃ H',Inv X pins σ H' s'/\Q H') X.xe s
section
variable {X:Cx} {pos:Pos}
noncomputable def de (i:Nat):TG:=fun v σ H Q=>Q (σ.set i (some v)) H
theorem kO {i:Nat} {x:Str} (hN:X.N.Nodup) (hi:X.N[i]?=some x) (hx:Loc X.env.scope x) (hf:X.fn x=true\/X.env.scope.names.lookup x=some .local:=by first | exact .inl rfl | exact .inr rfl | assumption):PG X (.Name x pos) (de i):=by
 intro pins s σ H v u Q I r h;exact wpAny_assign_Name (l5 I hN hi hx r (fun s' I'=>⟨_,H,I',h⟩) hf)
noncomputable def Ft:TGs:=fun vs σ H Q=>vs=[]/\Q σ H
noncomputable def x6 (t:TG) (u:TGs):TGs:=fun vs σ H Q=>∃ v r,vs=v :: r/\t v σ H fun σ' H'=>u r σ' H' Q
theorem yE:PGs X [] Ft:=by
 intro pins s σ H vs us Q I r h;obtain ⟨e,h⟩:=h;subst e;cases r;exact assignInOrder_nil ⟨σ,H,I,h⟩
theorem tQ {e:Expr} {es:List Expr} {t:TG} {u:TGs} (h1:PG X e t) (h2:PGs X es u)
  (hs:(assignEach (e :: es) X.env).map (·.2)=assign e X.env :: (assignEach es X.env).map (·.2):=by rfl):PGs X (e :: es) (x6 t u):=by
 intro pins s σ H vs us Q I r h;obtain ⟨v,vr,e1,h⟩:=h;subst e1;cases r with
 | cons r rr =>
  rw [hs];refine assignInOrder_cons (thn (h1 pins s σ H _ _ _ I r h) fun _ s1 ⟨σ1,H1,I1,q1⟩=>?_);exact h2 pins s1 σ1 H1 _ _ Q I1 rr q1
noncomputable def DN (K:Fg) (n:Nat) (t:TGs):TG:=fun v σ H Q=>∃ a xs,v=.ref a/\SqT K H a xs/\xs.length=n/\t xs σ H Q
theorem Ax {es:List Expr} {k:Nat} {t:TGs} {n:Nat} (hc:X.calm=true) (h:PGs X es t)
  (hn:(assignEach es X.env).length=n:=by rfl) (hst:(assignEach es X.env).findIdx? (·.1)=none:=by rfl):PG X (.Tuple es k pos) (DN X.K n t):=by
 intro pins s σ H v u Q I r hw;obtain ⟨a,xs,e1,hq,hl,hw⟩:=hw;subst e1;cases r;obtain ⟨its,rv,ht,hz⟩:=I.tuple hq;refine assign_Tuple_tuple (I.ok.hd hc) ht (by simp [hn,<-hl,rv.length]) hst fun h' hx=>?_;have I1:Inv X pins σ H { s with heap:=h' }:=I.kept (t':=s.toks) fun b o e=>hx b o (Js (Jc e)) e;exact h pins _ σ H xs _ Q I1 (by simpa using rv) hw
noncomputable def Gr (to ti:TE) (t:CJ):TG:=fun v σ H Q=>to σ H fun o H1=>ti σ H1 fun i H2=>t o i v H2 fun H3=>Q σ H3
theorem z0 {o i:Expr} {to ti:TE} {t:CJ} (ho:PE X o to) (hi:PE X i ti) (hs:ET X t)
  (ha:∀ v,assign (.Subscript o i pos) X.env v=(do
   let ov<-holding [v] (eval o X.env)
   let iv<-holding [v,ov] (eval i X.env)
   standAt pos
   holding [v,ov,iv] (setItem ov iv v)
   release [v,ov,iv] []):=by intro _;rfl):PG X (.Subscript o i pos) (Gr to ti t):=by
 intro pins s σ H v u Q I r h;rw [ha];refine IF (JX (thn (ho pins s σ H _ I h) fun ov s1 ⟨x,H1,I1,r1,q1⟩=>?_));refine IF (JX (thn (hi pins s1 σ H1 _ I1 q1) fun iv s2 ⟨y,H2,I2,r2,q2⟩=>?_));refine IF (wpAny_standAt (IF (JX (thn (hs pins s2 σ H2 x y v ov iv u _ I2 r1 r2 r q2) fun _ s3 ⟨H3,I3,q3⟩=>?_))));exact wpAny_release ⟨σ,H3,I3,q3⟩
noncomputable def tZ (te:TE) (g:TG):TS:=fun D σ H=>te σ H fun x H1=>g x σ H1 D.nx
theorem BC {tg e:Expr} {te:TE} {g:TG} (he:PE X e te) (hg:PG X tg g) (hs:swapsWithSole [tg] e pos.line X.env=pure false:=by rfl) (hw:swappedStores [tg] e X.env=pure none:=by rfl)
  (h1:(assignEach [tg] X.env).map (·.2)=[assign tg X.env]:=by rfl):PS X (.Assign [tg] e pos) (tZ te g):=by
 intro pins s σ H D I h;refine wpAny_Assign_stores (thn (he pins s σ H _ I h) fun v s1 ⟨x,H1,I1,r1,q1⟩=>?_) hs hw;rw [h1];exact thn (hg pins s1 σ H1 x v _ I1 r1 q1) fun _ s2 q=>q
theorem Ag {i:Nat} {x:Str} {e:Expr} {te:TE} {pos':Pos} (hN:X.N.Nodup) (hi:X.N[i]?=some x) (hx:Loc X.env.scope x) (he:PE X e te) (hs:swapsWith e (some (.Name x pos')) pos.line X.env=pure false:=by rfl) (hf:X.fn x=true\/X.env.scope.names.lookup x=some .local:=by first | exact .inl rfl | exact .inr rfl | assumption) :
  PS X (.Assign [.Name x pos'] e pos) (tZ te (de i)):=by
 intro pins s σ H D I h;refine wpAny_Assign_Name (thn (he pins s σ H _ I h) fun v s1 ⟨y,H1,I1,r1,q1⟩=>?_) hs;exact l5 I1 hN hi hx r1 (fun s2 I2=>⟨_,H1,I2,q1⟩) hf
end
section
variable {X:Cx} {pos:Pos}
noncomputable def p7 (c:TT) (tb:TS):TS:=fun D σ H=>∃ W:Nat->St->Hp->Prop,(∃ m,W m σ H)/\∀ m σ H,W m σ H ->
 c σ H fun b H1=>if b=true then ∃ N:St->Hp->Prop,(∀ σ' H',N σ' H'->∃ m',m' < m/\W m' σ' H')/\tb { D with nx:=N,ct:=N,bk:=D.nx } σ H1 else D.nx σ H1
theorem vc {c:Expr} {body:List Stmt} {tc:TT} {tb:TS} (hp:PassesOwn (model X.prog X.w) X.A X.env X.xe) (hc:PT X c tc) (hb:PSs X body tb):PS X (.While c body [] pos) (p7 tc tb):=by
 intro pins s σ H D I h;obtain ⟨W,⟨m0,w0⟩,turn⟩:=h;refine wpAny_While (codeAny_whileLoop (fun n s'=>∃ σ' H',Inv X pins σ' H' s'/\W n σ' H') ?_ m0 ⟨σ,H,I,w0⟩);rintro n s1 ⟨σ1,H1,I1,w1⟩;refine K7 hp (thn (hc pins s1 σ1 H1 _ I1 (turn n σ1 H1 w1)) fun b s2 ⟨H2,I2,q2⟩=>?_);cases b with
 | true =>
  obtain ⟨N,hN,q2⟩:=q2;rw [IV rfl];refine K7 hp (thn (hb pins s2 σ1 H2 _ I2 q2) fun f s3 q3=>?_);cases f with
  | next =>
   obtain ⟨σ3,H3,I3,n3⟩:=q3;obtain ⟨m',hm,w3⟩:=hN σ3 H3 n3;exact ⟨m',hm,σ3,H3,I3,w3⟩
  | cont =>
   obtain ⟨σ3,H3,I3,n3⟩:=q3;obtain ⟨m',hm,w3⟩:=hN σ3 H3 n3;exact ⟨m',hm,σ3,H3,I3,w3⟩
  | brk=>exact q3
  | ret v=>exact q3
 | false =>
  rw [IU Jj];exact wpAny_execs_nil ⟨σ1,H2,I2,q2⟩
end
structure It where
 go:Nat->Hp->Prop
 yld:Nat->Hp->V->Hp->Prop
 stop:Nat->Hp->Prop
noncomputable def uQ (X:Cx) (pins:List (Addr×Obj)) (H:Hp) (b:Addr):Prop :=
 H b=none/\b≠X.env.locals/\b ∉ X.fs/\(b∈X.ex\/X.s₀.heap.objs.size<=b)/\(∀ x c,X.env.cells.lookup x=some c->c≠b)/\∀ p∈X.pn++pins,p.1≠b
theorem Inv.z5 {X:Cx} {pins:List (Addr×Obj)} {σ:St} {H H':Hp} {s:Shared} {b:Addr} (I:Inv X pins σ H s) (hb:s.heap.objs.size<=b) (hn:H' b=none):uQ X pins H' b:=by
 refine ⟨hn,Kf (Jo I.lt hb),I.C4 hb,.inr (Jt I.sz hb),fun x c e z=>?_,fun p hp z=>?_⟩
 ·obtain ⟨v,q⟩:=I.cell x c e;exact absurd (Jo q.lt (by rw [z];exact hb)) (Kc _)
 ·exact absurd (Jo (Jc (I.pin p hp).1) (by rw [z];exact hb)) (Kc _)
structure Turn (P:Program) (w:World) (K:Fg) (tg:Expr) (J:It) (fp:List Addr) (it:Addr) (tn:Nat->Heap->Prop):Prop where
 mem:it∈fp
 obj:∀ i h,tn i h->∀ b∈fp,∃ o,h.get? b=some o/\∀ v,o.data≠.cell v
 keep:∀ i h h',tn i h->(∀ b∈fp,∀ o,h.get? b=some o->h'.get? b=some o)->tn i h'
 item:∀ (X:Cx),X.prog=P->X.w=w->X.K=K->X.calm=true->∀ (i:Nat) (pins:List (Addr×Obj)) (s:Shared) (σ:St) (H:Hp) (E:Value->Shared->Prop),Inv X pins σ H s->(∀ b∈fp,uQ X pins H b)->tn i s.heap->J.go i H ->
  wpAny (model P w) X.A (pyNext (.ref it)) (fun r s1=>∃ u,r=some u /\
   wpAny (model P w) X.A (letOwnedTupleGo tg (.ref it) u) (fun _ s2=>∃ x H',Inv X pins σ H' s2/\RelV x u/\J.yld i H x H'/\tn (i+1) s2.heap/\∀ b∈fp,H' b=none) E s1) E s
 done:∀ (X:Cx),X.prog=P->X.w=w->X.K=K->X.calm=true->∀ (i:Nat) (pins:List (Addr×Obj)) (s:Shared) (σ:St) (H:Hp) (E:Value->Shared->Prop),Inv X pins σ H s->(∀ b∈fp,uQ X pins H b)->tn i s.heap->J.stop i H ->
  wpAny (model P w) X.A (pyNext (.ref it)) (fun r s1=>r=none/\Inv X pins σ H s1) E s
 self:∀ (A:Around) (i:Nat) (s:Shared) (Q:Value->Shared->Prop) (E:Value->Shared->Prop),tn i s.heap->Q (.ref it) s->wpAny (model P w) A (pyIter (.ref it)) Q E s
noncomputable abbrev TI:=St->Hp->(It->Hp->Prop)->Prop
noncomputable def PIE (X:Cx) (pins:List (Addr×Obj)) (σ:St) (tg:Expr) (R:It->Hp->Prop) (itv:Value) (s2:Shared):Prop :=
 ∃ (it:Addr) (fp:List Addr) (tn:Nat->Heap->Prop) (J:It) (H':Hp),itv=.ref it/\Inv X pins σ H' s2/\Turn X.prog X.w X.K tg J fp it tn/\tn 0 s2.heap/\(∀ b∈fp,uQ X pins H' b)/\R J H'
noncomputable def PI (X:Cx) (tg iter:Expr) (wi:TI):Prop :=
 ∀ (pins:List (Addr×Obj)) (s:Shared) (σ:St) (H:Hp) (R:It->Hp->Prop),Inv X pins σ H s->wi σ H R ->
  wpAny (model X.prog X.w) X.A (eval iter X.env) (fun v s1=>wpAny (model X.prog X.w) X.A (pyIter v) (PIE X pins σ tg R) X.xe s1) X.xe s
theorem yX {M:Model} {A:Around} {E:Value->Shared->Prop} {s:Shared} {tg:Expr} {it:Addr} {u:Value} {o:Obj} {n:String} {vs:Array Value} {Q:Unit->Shared->Prop} (ho:s.heap.get? it=some o) (hc:o.cls=.type n) (hd:o.data=.fields vs)
    (hn:["enumerate", "zip", "dict_itemiterator", "dict_reverseitemiterator", "odict_iterator", "itertools.zip_longest", "itertools.pairwise"].contains n=false) (hQ:Q () s):wpAny M A (letOwnedTupleGo tg (.ref it) u) Q E s:=by
  unfold letOwnedTupleGo;cases tg <;> first
    | exact IJ hQ
    | (cases u <;> first
        | exact IJ hQ
        | (refine IF (wpAny_load ho ?_)
           rw [hc,hd];show wpAny M A (if (["enumerate", "zip", "dict_itemiterator", "dict_reverseitemiterator", "odict_iterator", "itertools.zip_longest", "itertools.pairwise"].contains n&&vs[0]?==some (rawInt _))=true then _ else _) Q E s;rw [IU (by intro h;rw [hn,Bool.false_and] at h;cases h)]
           exact IJ hQ))
noncomputable def Itl (K:Fg) (a:Addr):It :=
 ⟨fun i H=>∃ xs x,SqL K H a xs/\xs[i]?=some x,fun i H x H'=>H'=H/\∀ xs,SqL K H a xs->xs[i]?=some x,fun i H=>∃ xs,SqL K H a xs/\xs.length<=i⟩
noncomputable def Itt (K:Fg) (a:Addr):It :=
 ⟨fun i H=>∃ xs x,SqT K H a xs/\xs[i]?=some x,fun i H x H'=>H'=H/\∀ xs,SqT K H a xs->xs[i]?=some x,fun i H=>∃ xs,SqT K H a xs/\xs.length<=i⟩
noncomputable def Itr (lo:Int) (n:Nat):It:=⟨fun i _=>i < n,fun i H x H'=>H'=H/\x=.int (lo+i),fun i _=>n<=i⟩
theorem o4 {P:Program} {w:World} {K:Fg} {tg:Expr} (a it:Addr):Turn P w K tg (Itl K a) [it] it (fun i h=>h.IsListIter it a i) where
 mem:=by simp
 obj:=fun i h st b hb=>by
  have e:b=it:=by simpa using hb
  subst e;obtain ⟨o,e,c,d⟩:=st;exact ⟨o,e,fun v z=>by rw [d] at z;cases z⟩
 keep:=fun i h h' st k=>st.at fun o e=>k it (by simp) o e
 item:=by
  intro X hP hw hK hc i pins s σ H E I hf st hg;subst hP hw hK;obtain ⟨xs,x,hq,hx⟩:=hg;obtain ⟨its,rv,p,hz⟩:=I.list hq;obtain ⟨u,hu,ru⟩:=rv.get hx;obtain ⟨f0,f1,f2,f3,f4,f5⟩:=hf it (by simp);refine wpAny_pyNext_list_item st p.isList (x:=u) (by simpa using hu) fun h' st' sb=>?_;have I1:Inv X pins σ H { s with heap:=h' }:=I.turned (t':=s.toks) (fun b o hb e=>(sb.2 b hb).trans e) f0 f1 f3 f4 f5;obtain ⟨o,e,c,d⟩:=id st';exact ⟨u,rfl,yX (s:={ s with heap:=h' }) e c d (by decide) ⟨x,H,I1,ru,⟨rfl,fun ys hy=>by rw [I.uD hy hq];exact hx⟩,st',fun b hb=>(hf b hb).1⟩⟩
 done:=by
  intro X hP hw hK hc i pins s σ H E I hf st hg;subst hP hw hK;obtain ⟨xs,hq,hx⟩:=hg;obtain ⟨its,rv,p,hz⟩:=I.list hq;obtain ⟨f0,f1,f2,f3,f4,f5⟩:=hf it (by simp);have hl:=rv.length;exact wpAny_pyNext_list_end (I.ok.hd hc) st p.isList (by simp;omega) fun h' eb=>⟨rfl,I.turned (t':=s.toks) (fun b o hb e=>eb b o hb e) f0 f1 f3 f4 f5⟩
 self:=fun _ _ _ _ _ st h=>wpAny_pyIter_listiter st h
theorem ot {P:Program} {w:World} {K:Fg} {tg:Expr} (a it:Addr):Turn P w K tg (Itt K a) [it] it (fun i h=>h.IsTupleIter it a i) where
 mem:=by simp
 obj:=fun i h st b hb=>by
  have e:b=it:=by simpa using hb
  subst e;obtain ⟨o,e,c,d⟩:=st;exact ⟨o,e,fun v z=>by rw [d] at z;cases z⟩
 keep:=fun i h h' st k=>st.at fun o e=>k it (by simp) o e
 item:=by
  intro X hP hw hK hc i pins s σ H E I hf st hg;subst hP hw hK;obtain ⟨xs,x,hq,hx⟩:=hg;obtain ⟨its,rv,p,hz⟩:=I.tuple hq;obtain ⟨u,hu,ru⟩:=rv.get hx;obtain ⟨f0,f1,f2,f3,f4,f5⟩:=hf it (by simp);refine wpAny_pyNext_tuple_item st (show s.heap.IsTuple a its.toArray from p) (x:=u) (by simpa using hu) fun h' st' sb=>?_;have I1:Inv X pins σ H { s with heap:=h' }:=I.turned (t':=s.toks) (fun b o hb e=>(sb.2 b hb).trans e) f0 f1 f3 f4 f5;obtain ⟨o,e,c,d⟩:=id st';exact ⟨u,rfl,yX (s:={ s with heap:=h' }) e c d (by decide) ⟨x,H,I1,ru,⟨rfl,fun ys hy=>by rw [I.oE hy hq];exact hx⟩,st',fun b hb=>(hf b hb).1⟩⟩
 done:=by
  intro X hP hw hK hc i pins s σ H E I hf st hg;subst hP hw hK;obtain ⟨xs,hq,hx⟩:=hg;obtain ⟨its,rv,p,hz⟩:=I.tuple hq;obtain ⟨f0,f1,f2,f3,f4,f5⟩:=hf it (by simp);have hl:=rv.length;exact wpAny_pyNext_tuple_end (I.ok.hd hc) st (show s.heap.IsTuple a its.toArray from p) (by simp;omega) fun h' eb=>⟨rfl,I.turned (t':=s.toks) (fun b o hb e=>eb b o hb e) f0 f1 f3 f4 f5⟩
 self:=fun _ _ _ _ _ st h=>wpAny_pyIter_tupleiter st h
theorem nA {P:Program} {w:World} {K:Fg} {tg:Expr} (it:Addr) (lo:Int) (n:Nat):Turn P w K tg (Itr lo n) [it] it (fun i h=>IsRangeIter h it (lo+(i:Nat)*1) ((n:Int) - (i:Nat)) 1) where
 mem:=by simp
 obj:=fun i h st b hb=>by
  have e:b=it:=by simpa using hb
  subst e
  exact ⟨_,st,fun v z=>by
   have z':Data.fields _=Data.cell v:=z
   cases z'⟩
 keep:=fun i h h' st k=>k it (by simp) _ st
 item:=by
  intro X hP hw hK hc i pins s σ H E I hf st hg;subst hP hw hK;obtain ⟨f0,f1,f2,f3,f4,f5⟩:=hf it (by simp);have W:=Walks.range (prog:=X.prog) (w:=X.w) (I.ok.hd hc) it lo 1 n;refine W.item i s _ _ hg st fun v h' tk hv st' kk=>?_;obtain ⟨t,rfl⟩:=hv;have I1:Inv X pins σ H { s with heap:=h',toks:=tk }:=I.turned (fun b o hb e=>kk b o (by simpa using hb) e) f0 f1 f3 f4 f5;refine ⟨_,rfl,yX (s:={ s with heap:=h',toks:=tk }) (n := "range_iterator") st' rfl rfl (by decide) ⟨.int (lo+i),H,I1,⟨t,?_⟩,⟨rfl,rfl⟩,st',fun b hb=>(hf b hb).1⟩⟩;rw [Int.mul_one]
 done:=by
  intro X hP hw hK hc i pins s σ H E I hf st hg;subst hP hw hK;obtain ⟨f0,f1,f2,f3,f4,f5⟩:=hf it (by simp);exact wpAny_pyNext_range_end (I.ok.hd hc) st (by have:n<=i:=hg;omega) fun h' eb=>⟨rfl,I.turned (t':=s.toks) (fun b o hb e=>eb b o hb e) f0 f1 f3 f4 f5⟩
 self:=fun _ _ _ _ _ st h=>wpAny_pyIter_rangeiter st h
end L2
namespace L2
open PySem PySem.Spec PyProof.Rows
section
variable {X:Cx} {tg:Expr}
noncomputable def tK (K:Fg) (tl:TE):TI:=fun σ H R=>tl σ H fun x H1=>∃ a,x=.ref a/\(∃ xs,SqL K H1 a xs)/\R (Itl K a) H1
noncomputable def C5 (K:Fg) (tl:TE):TI:=fun σ H R=>tl σ H fun x H1=>∃ a,x=.ref a/\(∃ xs,SqT K H1 a xs)/\R (Itt K a) H1
theorem yn {l:Expr} {tl:TE} (hl:PE X l tl):PI X tg l (tK X.K tl):=by
 intro pins s σ H R I h;refine thn (hl pins s σ H _ I h) fun v s1 ⟨x,H1,I1,r1,q1⟩=>?_;obtain ⟨a,e,⟨xs,hq⟩,q⟩:=q1;subst e;cases r1;obtain ⟨its,rv,p,hz⟩:=I1.list hq;refine wpAny_pyIter_list p.isList ?_;refine ⟨s1.heap.objs.size,[s1.heap.objs.size],_,_,H1,rfl,I1.kept (t':=s1.toks) fun b o e=>IQ _ e,o4 a _,⟨_,Jk _ rfl,rfl,rfl⟩,fun b hb=>?_,q⟩;have e:b=s1.heap.objs.size:=by simpa using hb
 subst e;exact I1.z5 (IY _) (I1.hok.fresh (IY _))
theorem Am {l:Expr} {tl:TE} (hl:PE X l tl):PI X tg l (C5 X.K tl):=by
 intro pins s σ H R I h;refine thn (hl pins s σ H _ I h) fun v s1 ⟨x,H1,I1,r1,q1⟩=>?_;obtain ⟨a,e,⟨xs,hq⟩,q⟩:=q1;subst e;cases r1;obtain ⟨its,rv,p,hz⟩:=I1.tuple hq;refine wpAny_pyIter_tuple (show s1.heap.IsTuple a its.toArray from p) ?_;refine ⟨s1.heap.objs.size,[s1.heap.objs.size],_,_,H1,rfl,I1.kept (t':=s1.toks) fun b o e=>IQ _ e,ot a _,⟨_,Jk _ rfl,rfl,rfl⟩,fun b hb=>?_,q⟩;have e:b=s1.heap.objs.size:=by simpa using hb
 subst e;exact I1.z5 (IY _) (I1.hok.fresh (IY _))
theorem ve {pins:List (Addr×Obj)} {σ:St} {H:Hp} {s:Shared} {R:It->Hp->Prop} {E:Value->Shared->Prop} {lo hi:Int} {t u v:Tok} {tk:Nat} (I:Inv X pins σ H s) (h1:-(2 ^ 62)<=lo) (h2:lo < 2 ^ 62) (h3:-(2 ^ 62)<=hi) (h4:hi < 2 ^ 62)
  (q:R (Itr lo (hi - lo).toNat) H):wpAny (model X.prog X.w) X.A (pyIter (.ref s.heap.objs.size)) (PIE X pins σ tg R) E { s with heap:=s.heap.push { cls:=.type "range", data:=.fields #[.int lo t,.int hi u,.int 1 v] },toks:=tk }:=by
 refine wpAny_pyIter_range (IsRange.new ..) (small_one h1 h2 h3 h4) ?_;have I1:Inv X pins σ H { s with heap:=s.heap.push { cls:=.type "range", data:=.fields #[.int lo t,.int hi u,.int 1 v] },toks:=tk }:=I.kept fun b o e=>IQ _ e
 refine ⟨(s.heap.push { cls:=.type "range", data:=.fields #[.int lo t,.int hi u,.int 1 v] }).objs.size,[(s.heap.push { cls:=.type "range", data:=.fields #[.int lo t,.int hi u,.int 1 v] }).objs.size],_,_,H,rfl,
  I1.kept (t':=tk) fun b o e=>IQ _ e,nA _ lo (hi - lo).toNat,?_,fun b hb=>?_,q⟩
 ·have e1:lo+((0:Nat):Int)*1=lo:=by simp
  have e2:(((hi - lo).toNat:Nat):Int) - ((0:Nat):Int)=Builtin.Range.rangeSize lo hi 1:=by rw [rangeSize_one];split <;> omega
  show IsRangeIter _ _ (lo+((0:Nat):Int)*1) ((((hi - lo).toNat:Nat):Int) - ((0:Nat):Int)) 1;rw [e1,e2];exact Jk _ rfl
 ·have e:b=(s.heap.push { cls:=.type "range", data:=.fields #[.int lo t,.int hi u,.int 1 v] }).objs.size:=by simpa using hb
  subst e;exact I1.z5 (IY _) (I1.hok.fresh (IY _))
noncomputable def w8 (ta:TA):TI:=fun σ H R=>ta σ H fun vs H1=>∃ j:Int,vs=[.int j]/\-(2 ^ 62)<=j/\j < 2 ^ 62/\R (Itr 0 j.toNat) H1
noncomputable def ED (ta:TA):TI:=fun σ H R=>ta σ H fun vs H1=>∃ i j:Int,vs=[.int i,.int j]/\(-(2 ^ 62)<=i/\i < 2 ^ 62/\-(2 ^ 62)<=j/\j < 2 ^ 62)/\R (Itr i (j - i).toNat) H1
theorem oU {a:Expr} {ta:TA} {p pos:Pos} (hg:Gl X "range") (hm:X.mg "range" = none) (ha:PA X [a] ta) (hs:starEach [a] X.env=[(false,eval a X.env)]:=by rfl):PI X tg (.Call (.Name "range" p) [a] [] pos) (w8 ta):=by
 intro pins s σ H R I h;refine Call_ (hG I hg hm boot_range (PyProof.Rows.callWith_type1 (thn (ha pos pins s σ H _ I h) fun us s1 ⟨vs,H1,I1,r1,q1⟩=>?_) hs rfl));obtain ⟨j,e,q1,q2,q⟩:=q1;subst e;cases r1 with
 | cons r rr =>
  cases rr;obtain ⟨t,rfl⟩:=r;exact call_range_1 (ve I1 (by omega) (by omega) q1 q2 (by simpa using q))
noncomputable def As (wi:TI) (g:TG) (tb:TS):TS:=fun D σ H=>wi σ H fun J H1=>∃ W:Nat->Nat->St->Hp->Prop,(∃ m,W 0 m σ H1)/\∀ i m σ H,W i m σ H ->
 (J.stop i H/\D.nx σ H)\/(J.go i H/\∃ N:St->Hp->Prop,(∀ σ' H',N σ' H'->∃ m',m' < m/\W (i+1) m' σ' H')/\∀ x H',J.yld i H x H'->g x σ H' fun σ2 H2=>tb { D with nx:=N,ct:=N,bk:=D.nx } σ2 H2)
noncomputable def kb (fp:List Addr) (h:Heap):List (Addr×Obj):=fp.filterMap fun b=>(h.get? b).map fun o=>(b,o)
theorem cJ {fp:List Addr} {h:Heap} {b:Addr} {o:Obj} (hb:b∈fp) (e:h.get? b=some o):(b,o)∈kb fp h:=List.mem_filterMap.mpr ⟨b,hb,by rw [e];rfl⟩
theorem su {fp:List Addr} {h:Heap} {p:Addr×Obj} (hp:p∈kb fp h):p.1∈fp/\h.get? p.1=some p.2:=by
 obtain ⟨b,hb,e⟩:=List.mem_filterMap.mp hp;cases q:h.get? b with
 | none=>rw [q] at e;cases e
 | some o =>
  rw [q] at e;have e':(b,o)=p:=JQ e;subst e';exact ⟨hb,q⟩
theorem Inv.pinned {pins:List (Addr×Obj)} {σ:St} {H:Hp} {s:Shared} {fp:List Addr} (I:Inv X pins σ H s) (hf:∀ b∈fp,uQ X pins H b) (ho:∀ b∈fp,∃ o,s.heap.get? b=some o/\∀ v,o.data≠.cell v):Inv X (pins++kb fp s.heap) σ H s :=
 I.cB fun p hp=>(Jv.mp hp).elim (fun z=>I.pin p (IS _ z)) fun z=>by
  obtain ⟨hb,e⟩:=su z;obtain ⟨f0,f1,f2,_⟩:=hf p.1 hb;obtain ⟨o,e',d⟩:=ho p.1 hb;rw [e] at e';cases e';exact ⟨e,f0,f1,f2,d⟩
theorem Inv.je {pins pl:List (Addr×Obj)} {σ:St} {H:Hp} {s:Shared} (I:Inv X (pins++pl) σ H s):Inv X pins σ H s:=I.cB fun p hp=>I.pin p (IS _ (Jr _ hp))
theorem AY {iter:Expr} {body:List Stmt} {wi:TI} {g:TG} {tb:TS} {pos:Pos} (hp:PassesOwn (model X.prog X.w) X.A X.env X.xe) (hc:X.calm=true) (hi:PI X tg iter wi) (hg:PG X tg g) (hb:PSs X body tb)
  (hs:∀ x,foldedSetIterable iter X.env x=pure x:=by intro _;rfl):PS X (.For tg iter body [] pos) (As wi g tb):=by
 intro pins s σ H D I h;refine wpAny_For (thn (hi pins s σ H _ I h) fun v s1 h1=>thn h1 fun itv s2 h2=>?_) hs;obtain ⟨it,fp,tn,J,H2,e,I2,T,st2,f2,W,⟨m0,w0⟩,turn⟩:=h2;subst e;have stat:∀ {H':Hp},(∀ b∈fp,H' b=none)->∀ b∈fp,uQ X pins H' b:=fun hn b hb=>⟨hn b hb,(f2 b hb).2⟩;refine codeAny_forLoop_any (fun n s'=>∃ i σ' H',Inv X pins σ' H' s'/\tn i s'.heap/\(∀ b∈fp,H' b=none)/\W i n σ' H') ?_ m0 ⟨0,σ,H2,I2,st2,fun b hb=>(f2 b hb).1,w0⟩;rintro n s3 ⟨i,σ3,H3,I3,st3,fr3,w3⟩;rcases turn i n σ3 H3 w3 with ⟨stop,qn⟩ | ⟨go,N,hN,step⟩
 ·refine K7 hp (thn (T.done X rfl rfl rfl hc i pins s3 σ3 H3 X.xe I3 (stat fr3) st3 stop) fun r s4 ⟨hr,I4⟩=>?_);subst hr;exact wpAny_execs_nil ⟨σ3,H3,I4,qn⟩
 ·refine K7 hp (thn (T.item X rfl rfl rfl hc i pins s3 σ3 H3 X.xe I3 (stat fr3) st3 go) fun r s4 ⟨u,hr,h4⟩=>?_);subst hr;refine K7 hp (thn h4 fun _ s5 ⟨x,H5,I5,r5,y5,st5,fr5⟩=>?_);have I5':=I5.pinned (stat fr5) (T.obj _ _ st5);refine K7 hp (thn (hg _ s5 σ3 H5 x u _ I5' r5 (step x H5 y5)) fun _ s6 ⟨σ6,H6,I6,q6⟩=>?_);refine K7 hp (thn (hb _ s6 σ6 H6 _ I6 q6) fun f s7 q7=>?_);have again:∀ {σ7:St} {H7:Hp},Inv X (pins++kb fp s5.heap) σ7 H7 s7->N σ7 H7->∃ m,m < n/\∃ i σ' H',Inv X pins σ' H' s7/\tn i s7.heap/\(∀ b∈fp,H' b=none)/\W i m σ' H':=fun {σ7 H7} I7 n7=>by
   obtain ⟨m',hm,w7⟩:=hN σ7 H7 n7;refine ⟨m',hm,i+1,σ7,H7,I7.je,T.keep _ _ _ st5 fun b hb o e=>(I7.pin (b,o) (IS _ (IS _ (cJ hb e)))).1,fun b hb=>?_,w7⟩;obtain ⟨o,e,d⟩:=T.obj _ _ st5 b hb;exact (I7.pin (b,o) (IS _ (IS _ (cJ hb e)))).2.1
  cases f with
  | next=>obtain ⟨σ7,H7,I7,n7⟩:=q7;exact again I7 n7
  | cont=>obtain ⟨σ7,H7,I7,n7⟩:=q7;exact again I7 n7
  | brk=>obtain ⟨σ7,H7,I7,q7⟩:=q7;exact ⟨σ7,H7,I7.je,q7⟩
  | ret v=>obtain ⟨x7,σ7,H7,I7,r7,q7⟩:=q7;exact ⟨x7,σ7,H7,I7.je,r7,q7⟩
end
end L2
namespace L2
open PySem PySem.Spec PyProof.Rows
noncomputable abbrev R2:=V->V->Hp->VK->Prop
noncomputable def OpR (X:Cx) (f:Value->Value->Sem Value) (r:R2):Prop :=
 ∀ (pins:List (Addr×Obj)) (s:Shared) (σ:St) (H:Hp) (x y:V) (v u:Value) (Q:VK),Inv X pins σ H s->RelV x v->RelV y u->r x y H Q ->
  wpAny (model X.prog X.w) X.A (f v u) (EP X pins σ Q) X.xe s
noncomputable def UnR (X:Cx) (f:Value->Sem Value) (r:V->Hp->VK->Prop):Prop :=
 ∀ (pins:List (Addr×Obj)) (s:Shared) (σ:St) (H:Hp) (x:V) (v:Value) (Q:VK),Inv X pins σ H s->RelV x v->r x H Q ->
  wpAny (model X.prog X.w) X.A (f v) (EP X pins σ Q) X.xe s
noncomputable def aQ (X:Cx) (f:Value) (r:List V->Hp->VK->Prop):Prop :=
 ∀ (pins:List (Addr×Obj)) (s:Shared) (σ:St) (H:Hp) (xs:List V) (us:List Value) (Q:VK),Inv X pins σ H s->Vals xs us->r xs H Q ->
  wpAny (model X.prog X.w) X.A (call f us) (EP X pins σ Q) X.xe s
noncomputable def Hy (X:Cx) (r:V->Hp->(Bool->Hp->Prop)->Prop):Prop :=
 ∀ (pins:List (Addr×Obj)) (s:Shared) (σ:St) (H:Hp) (x:V) (v:Value) (Q:Bool->Hp->Prop),Inv X pins σ H s->RelV x v->r x H Q ->
  wpAny (model X.prog X.w) X.A (truthy v) (TP X pins σ Q) X.xe s
noncomputable def tOp (r:R2) (ta tb:TE):TE:=fun σ H Q=>ta σ H fun x H1=>tb σ H1 fun y H2=>r x y H2 Q
noncomputable def tUn (r:V->Hp->VK->Prop) (ta:TE):TE:=fun σ H Q=>ta σ H fun x H1=>r x H1 Q
noncomputable def rI (C:Int->Int->Prop) (g:Int->Int->V):R2:=fun x y H Q=>∃ i j,x=.int i/\y=.int j/\C i j/\Q (g i j) H
noncomputable def rI0 (g:Int->Int->V):R2:=fun x y H Q=>∃ i j,x=.int i/\y=.int j/\Q (g i j) H
noncomputable def rU (g:Int->V):V->Hp->VK->Prop:=fun x H Q=>∃ i,x=.int i/\Q (g i) H
section
variable {X:Cx} {a b c:Expr} {ta tb tc:TE} {pos:Pos}
theorem Dx (ha:PE X a ta) (hb:PE X b tb) {pins:List (Addr×Obj)} {s:Shared} {σ:St} {H:Hp} {R:V->V->Hp->Prop} (I:Inv X pins σ H s)
  (h:ta σ H fun x H1=>tb σ H1 fun y H2=>R x y H2) {Q:Value->Shared->Prop} {f:Value->Value->Sem Value}
  (hf:∀ v u s2 x y H2,Inv X pins σ H2 s2->RelV x v->RelV y u->R x y H2->wpAny (model X.prog X.w) X.A (f v u) Q X.xe s2) :
  wpAny (model X.prog X.w) X.A (eval a X.env) (fun v s₁=>wpAny (model X.prog X.w) X.A (eval b X.env) (fun u s₂=>wpAny (model X.prog X.w) X.A (f v u) Q X.xe s₂) X.xe s₁) X.xe s:=by
 refine thn (ha pins s σ H _ I h) fun v s1 ⟨x,H1,I1,r1,q1⟩=>?_;refine thn (hb pins s1 σ H1 _ I1 q1) fun u s2 ⟨y,H2,I2,r2,q2⟩=>?_;exact hf v u s2 x y H2 I2 r1 r2 q2
theorem FW {op:Operator} {r:R2} (ho:OpR X (binaryOp op) r) (ha:PE X a ta) (hb:PE X b tb):PE X (.BinOp a op b pos) (tOp r ta tb):=by
 intro pins s σ H Q I h;exact wpAny_BinOp (Dx ha hb I h fun v u s2 x y H2 I2 rx ry q=>ho pins s2 σ H2 x y v u Q I2 rx ry q)
theorem Gh {op:UnaryOp} {r:V->Hp->VK->Prop} (ho:UnR X (unaryOp op) r) (ha:PE X a ta):PE X (.UnaryOp op a pos) (tUn r ta):=by
 intro pins s σ H Q I h;exact UnaryOp_ (thn (ha pins s σ H _ I h) fun v s1 ⟨x,H1,I1,r1,q1⟩=>ho pins s1 σ H1 x v Q I1 r1 q1)
theorem opI {f:Value->Value->Sem Value} {C:Int->Int->Prop} {g:Int->Int->Int}
  (rule:∀ (i j:Int) (t u:Tok) (s:Shared) (Q:Value->Shared->Prop) (E:Value->Shared->Prop),C i j->Q (.int (g i j) s.toks) { s with toks:=s.toks+1 }->wpAny (model X.prog X.w) X.A (f (.int i t) (.int j u)) Q E s) :
  OpR X f (rI C fun i j=>.int (g i j)):=by
 intro pins s σ H x y v u Q I rx ry h;obtain ⟨i,j,rfl,rfl,hc,q⟩:=h;obtain ⟨t,rfl⟩:=rx;obtain ⟨t',rfl⟩:=ry;exact rule i j t t' s _ _ hc ⟨.int (g i j),H,I.tok _,⟨_,rfl⟩,q⟩
theorem Gx {f:Value->Value->Sem Value} {g:Int->Int->Int}
  (rule:∀ (i j:Int) (t u:Tok) (s:Shared) (Q:Value->Shared->Prop) (E:Value->Shared->Prop),Q (.int (g i j) s.toks) { s with toks:=s.toks+1 }->wpAny (model X.prog X.w) X.A (f (.int i t) (.int j u)) Q E s) :
  OpR X f (rI0 fun i j=>.int (g i j)):=by
 intro pins s σ H x y v u Q I rx ry h;obtain ⟨i,j,rfl,rfl,q⟩:=h;obtain ⟨t,rfl⟩:=rx;obtain ⟨t',rfl⟩:=ry;exact rule i j t t' s _ _ ⟨.int (g i j),H,I.tok _,⟨_,rfl⟩,q⟩
theorem CT {f:Value->Value->Sem Value} {g:Int->Int->Bool}
  (rule:∀ (i j:Int) (t u:Tok) (s:Shared) (Q:Value->Shared->Prop) (E:Value->Shared->Prop),Q (.bool (g i j)) s->wpAny (model X.prog X.w) X.A (f (.int i t) (.int j u)) Q E s) :
  OpR X f (rI0 fun i j=>.bl (g i j)):=by
 intro pins s σ H x y v u Q I rx ry h;obtain ⟨i,j,rfl,rfl,q⟩:=h;obtain ⟨t,rfl⟩:=rx;obtain ⟨t',rfl⟩:=ry;exact rule i j t t' s _ _ ⟨.bl (g i j),H,I,rfl,q⟩
noncomputable def Hb (i j:Int):Prop:=0<=j/\j<=1000000/\i.natAbs < 2 ^ 64
noncomputable def A0 (i j:Int):Prop:=(-(2 ^ 64) < i/\i < 2 ^ 64)\/(-(2 ^ 64) < j/\j < 2 ^ 64)
theorem A0.ok {i j:Int} (h:A0 i j):IntMulOk i j:=by
 rcases h with ⟨h1,h2⟩ | ⟨h1,h2⟩
 ·exact .of_left (intBits_le_64 h1 h2)
 ·exact .of_right (intBits_le_64 h1 h2)
theorem zK:OpR X (binaryOp .Add) (rI0 fun i j=>.int (i+j)):=Gx fun _ _ _ _ _ _ _ q=>add_int q
theorem BA:OpR X (binaryOp .Sub) (rI0 fun i j=>.int (i - j)):=Gx fun _ _ _ _ _ _ _ q=>sub_int q
theorem A8:OpR X (binaryOp .Mult) (rI A0 fun i j=>.int (i*j)):=opI fun _ _ _ _ _ _ _ hc q=>mul_int q hc.ok
theorem AQ:OpR X (binaryOp .Mod) (rI (fun _ j=>0 < j) fun i j=>.int (i % j)):=opI fun i j _ _ _ _ _ hc q=>by
 have h1:(0:Int) < j:=hc;exact mod_int' (by omega) (by rw [Int.fmod_eq_emod_of_nonneg i (by omega)];exact q)
theorem z4:OpR X (binaryOp .Pow) (rI Hb fun i j=>.int (i ^ j.toNat)):=opI fun _ _ _ _ _ _ _ hc q=>pow_int_small hc.1 hc.2.1 hc.2.2 q
theorem unI {f:Value->Sem Value} {g:Int->Int}
  (rule:∀ (i:Int) (t:Tok) (s:Shared) (Q:Value->Shared->Prop) (E:Value->Shared->Prop),Q (.int (g i) s.toks) { s with toks:=s.toks+1 }->wpAny (model X.prog X.w) X.A (f (.int i t)) Q E s) :
  UnR X f (rU fun i=>.int (g i)):=by
 intro pins s σ H x v Q I rx h;obtain ⟨i,rfl,q⟩:=h;obtain ⟨t,rfl⟩:=rx;exact rule i t s _ _ ⟨.int (g i),H,I.tok _,⟨_,rfl⟩,q⟩
theorem zG:UnR X (unaryOp .USub) (rU fun i=>.int (-i)):=unI fun _ _ _ _ _ q=>neg_int q
end
section
variable {X:Cx} {a b c:Expr} {ta tb tc:TE} {pos:Pos}
theorem wO {pins:List (Addr×Obj)} {σ:St} {H:Hp} {s:Shared} {Q:VK} {k k':Bool} (I:Inv X pins σ H s) (q:Q (.bl k) H) (e:k=k'):EP X pins σ Q (.bool k') s:=by
 subst e;exact ⟨.bl k,H,I,rfl,q⟩
theorem E7:OpR X (compareOp .Lt) (rI0 fun i j=>.bl (decide (i < j))):=CT fun _ _ _ _ _ _ _ q=>lt_int q
theorem Gf:OpR X (compareOp .LtE) (rI0 fun i j=>.bl (decide (i<=j))):=CT fun _ _ _ _ _ _ _ q=>le_int q
theorem Ga:OpR X (compareOp .Gt) (rI0 fun i j=>.bl (decide (j < i))):=CT fun _ _ _ _ _ _ _ q=>gt_int q
theorem EU:OpR X (compareOp .GtE) (rI0 fun i j=>.bl (decide (j<=i))):=CT fun _ _ _ _ _ _ _ q=>ge_int q
theorem rp:OpR X (compareOp .Lt) (fun x y H Q=>∃ i j,x=.str i/\y=.str j/\Q (.bl (decide (i.cps.toList < j.cps.toList))) H):=by
 intro pins s σ H x y v u Q I rx ry h;obtain ⟨i,j,rfl,rfl,q⟩:=h;obtain ⟨t,rfl⟩:=rx;obtain ⟨t',rfl⟩:=ry;exact lt_str (wO I q rfl)
theorem sP:OpR X (compareOp .In) (fun x y H Q=>∃ i j,x=.str i/\y=.str j/\Q (.bl (!(Builtin.Str.occurrences j i 0 j.length 1).isEmpty)) H):=by
 intro pins s σ H x y v u Q I rx ry h;obtain ⟨i,j,rfl,rfl,q⟩:=h;obtain ⟨t,rfl⟩:=rx;obtain ⟨t',rfl⟩:=ry;exact in_str (wO I q rfl)
theorem fO (b:Expr) {op:CmpOp} (h:op≠.In:=by decide) (h2:op≠.NotIn:=by decide):behindInMarks op b=false:=by
 have e1:(op==CmpOp.In)=false:=by cases op <;> first | rfl | exact absurd rfl h
 have e2:(op==CmpOp.NotIn)=false:=by cases op <;> first | rfl | exact absurd rfl h2
 cases b <;> simp [behindInMarks,e1,e2]
theorem yM {op:CmpOp} {r:R2} (ho:OpR X (compareOp op) r) (ha:PE X a ta) (hb:PE X b tb) (hm:behindInMarks op b=false):PE X (.Compare a [op] [b] pos) (tOp r ta tb):=by
 intro pins s σ H Q I h;exact wpAny_Compare1 (Dx ha hb I h fun v u s2 x y H2 I2 rx ry q=>ho pins s2 σ H2 x y v u Q I2 rx ry q) hm
noncomputable def oP (t:TE):TT:=fun σ H Q=>t σ H fun x H'=>∃ k,x=.bl k/\Q k H'
theorem yz {op:CmpOp} {r:R2} (ho:OpR X (compareOp op) r) (ha:PE X a ta) (hb:PE X b tb) (hm:behindInMarks op b=false):PT X (.Compare a [op] [b] pos) (oP (tOp r ta tb)):=by
 intro pins s σ H Q I h
 refine wpAny_isTrue_Compare1 (thn (ha pins s σ H _ I h) fun v s1 ⟨x,H1,I1,r1,q1⟩=>thn (hb pins s1 σ H1 _ I1 q1) fun u s2 ⟨y,H2,I2,r2,q2⟩ =>
  thn (ho pins s2 σ H2 x y v u _ I2 r1 r2 q2) fun c s3 ⟨z,H3,I3,r3,k,e,q3⟩=>?_) hm
 subst e;cases r3;exact J8 ⟨H3,I3,q3⟩
noncomputable def kB (r r':R2) (ta tb tc:TE):TE:=fun σ H Q=>ta σ H fun x H1=>tb σ H1 fun y H2=>r x y H2 fun z H3=>∃ k,z=.bl k /\
 (if k=true then tc σ H3 fun w' H4=>r' y w' H4 Q else Q (.bl false) H3)
theorem tH {op op':CmpOp} {r r':R2} (ho:OpR X (compareOp op) r) (ho':OpR X (compareOp op') r') (ha:PE X a ta) (hb:PE X b tb) (hc:PE X c tc)
  (hm:lastMarks [op,op'] [b,c]=false:=by with_unfolding_all rfl):PE X (.Compare a [op,op'] [b,c] pos) (kB r r' ta tb tc):=by
 intro pins s σ H Q I h
 refine Compare_chain (thn (ha pins s σ H _ I h) fun v s1 ⟨x,H1,I1,r1,q1⟩=>chain_link (thn (hb pins s1 σ H1 _ I1 q1) fun u s2 ⟨y,H2,I2,r2,q2⟩ =>
  thn (ho pins s2 σ H2 x y v u _ I2 r1 r2 q2) fun d s3 ⟨z,H3,I3,r3,k,e,q3⟩=>?_)) hm
 subst e;cases r3;refine J8 ?_;cases k with
 | false=>exact ite_ff ⟨.bl false,H3,I3,rfl,q3⟩
 | true=>exact ite_tt (chain_last (thn (hc pins s3 σ H3 _ I3 q3) fun w' s4 ⟨z',H4,I4,r4,q4⟩=>ho' pins s4 σ H4 y z' u w' Q I4 r2 r4 q4))
theorem uI {op op':CmpOp} {r r':R2} (ho:OpR X (compareOp op) r) (ho':OpR X (compareOp op') r') (ha:PE X a ta) (hb:PE X b tb) (hc:PE X c tc)
  (hm:lastMarks [op,op'] [b,c]=false:=by with_unfolding_all rfl):PT X (.Compare a [op,op'] [b,c] pos) (oP (kB r r' ta tb tc)):=by
 intro pins s σ H Q I h
 refine isTrue_chain (thn (ha pins s σ H _ I h) fun v s1 ⟨x,H1,I1,r1,q1⟩=>test_link (thn (hb pins s1 σ H1 _ I1 q1) fun u s2 ⟨y,H2,I2,r2,q2⟩ =>
  thn (ho pins s2 σ H2 x y v u _ I2 r1 r2 q2) fun d s3 ⟨z,H3,I3,r3,k,e,q3⟩=>?_)) hm
 subst e;cases r3;refine J8 ?_;cases k with
 | false =>
  obtain ⟨k',e',q'⟩:=q3;cases e';exact ite_ff ⟨H3,I3,q'⟩
 | true =>
  refine ite_tt (test_last (thn (hc pins s3 σ H3 _ I3 q3) fun w' s4 ⟨z',H4,I4,r4,q4⟩=>thn (ho' pins s4 σ H4 y z' u w' _ I4 r2 r4 q4) fun d' s5 ⟨z2,H5,I5,r5,k2,e2,q5⟩=>?_));subst e2;cases r5;exact J8 ⟨H5,I5,q5⟩
noncomputable def C9 (K:Fg) (x:V) (H:Hp) (k:Bool):Prop :=
 match x with
 | .non=>k=false
 | .bl b=>k=b
 | .int i=>k=(i != 0)
 | .str y=>y.length<=sizeLine/\k=((y.length:Int) != 0)
 | .byt y=>y.size<=sizeLine/\k=((y.size:Int) != 0)
 | .ref p=>(∃ xs,SqL K H p xs/\k=!xs.isEmpty)\/(∃ xs,SqT K H p xs/\k=!xs.isEmpty)\/∃ kvs,H p=some (.dK kvs)/\k=!kvs.isEmpty
 | _=>False
theorem nU {κ:Type} {kvs:List (κ×V)} {vs:List (κ×Value)} (r:KV kvs vs):(!vs.isEmpty)=!kvs.isEmpty:=by
 cases r <;> rfl
theorem iG {xs:List V} {its:List Value} (r:Vals xs its):(!its.toArray.isEmpty)=!xs.isEmpty:=by
 cases r <;> simp
theorem iN:(sizeLine:Nat) < 2 ^ 63:=by rw [J3];decide
theorem Gv:Hy X (fun x H Q=>∃ k,C9 X.K x H k/\Q k H):=by
 intro pins s σ H x v Q I rx h;obtain ⟨k,e,q⟩:=h;have hl:=iN;have hs:sizeLine=16777216:=J3;cases x with
 | non =>
  cases rx;have e':k=false:=e;subst e';exact truthy_none ⟨H,I,q⟩
 | bl b =>
  cases rx;have e':k=b:=e;subst e';exact J8 ⟨H,I,q⟩
 | int i =>
  obtain ⟨t,rfl⟩:=rx;have e':k=(i != 0):=e;subst e';exact PySem.P.truthy_int ⟨H,I,q⟩
 | str y =>
  obtain ⟨t,rfl⟩:=rx;obtain ⟨hy,e'⟩:y.length<=sizeLine/\k=((y.length:Int) != 0):=e;subst e';exact PySem.P.truthy_str (by omega) ⟨H,I.tok _,q⟩
 | byt y =>
  obtain ⟨t,rfl⟩:=rx;obtain ⟨hy,e'⟩:y.size<=sizeLine/\k=((y.size:Int) != 0):=e;subst e';exact PySem.W.truthy_bytes (by omega) ⟨H,I.tok _,q⟩
 | ref p =>
  cases rx;have e':(∃ xs,SqL X.K H p xs/\k=!xs.isEmpty)\/(∃ xs,SqT X.K H p xs/\k=!xs.isEmpty)\/∃ kvs,H p=some (.dK kvs)/\k=!kvs.isEmpty:=e;rcases e' with ⟨xs,hx,e'⟩ | ⟨xs,hx,e'⟩ | ⟨kvs,hx,e'⟩
  ·subst e';obtain ⟨its,r,pl,hz⟩:=I.list hx;have hlen:=r.length;exact wpAny_truthy_list pl.isList (by simp only [IW];omega) ⟨H,I.tok _,by rw [iG r];exact q⟩
  ·subst e';obtain ⟨its,r,pl,hz⟩:=I.tuple hx;have hlen:=r.length;exact truthy_tuple pl (by simp only [IW];omega) ⟨H,I.tok _,by rw [iG r];exact q⟩
  ·subst e';obtain ⟨hz,hS,vs,r,m⟩:kvs.length<=sizeLine/\(p==sysModules)=false/\∃ vs,KV kvs vs/\s.heap.DictOf (aM X.prog X.w) p vs:=I.hok p _ hx;have hlen:kvs.length=vs.length:=Paired.length r;exact wpAny_truthy_dict hS m (by omega) ⟨H,I.tok _,by rw [nU r];exact q⟩
 | _=>exact (show False from e).elim
theorem nZ:OpR X (binaryOp .Add) (fun x y H Q=>∃ i j,x=.str i/\y=.str j/\i.length+j.length<=sizeLine/\Q (.str (i++j)) H):=by
 intro pins s σ H x y v u Q I rx ry h;obtain ⟨i,j,rfl,rfl,hz,q⟩:=h;obtain ⟨t,rfl⟩:=rx;obtain ⟨t',rfl⟩:=ry;exact add_str (fun t' tk=>⟨.str (i++j),H,I.tok _,⟨_,rfl⟩,q⟩) hz
theorem vals1 {x:V} {us:List Value} (r:Vals [x] us):∃ u,us=[u]/\RelV x u:=by
 cases r with
 | cons r1 r2=>cases r2;exact ⟨_,rfl,r1⟩
theorem vals2 {x y:V} {us:List Value} (r:Vals [x,y] us):∃ u w',us=[u,w']/\RelV x u/\RelV y w':=by
 cases r with
 | cons r1 r2 =>
  cases r2 with
  | cons r3 r4=>cases r4;exact ⟨_,_,rfl,r1,r3⟩
theorem u9:aQ X (.builtin "abs") (fun xs H Q=>∃ i,xs=[.int i]/\Q (.int (if i < 0 then -i else i)) H):=by
 intro pins s σ H xs us Q I r h;obtain ⟨i,rfl,q⟩:=h;obtain ⟨u,rfl,t,rfl⟩:=vals1 r;exact call_abs_int fun u tk=>⟨.int (if i < 0 then -i else i),H,I.tok _,⟨_,rfl⟩,q⟩
theorem qJ:aQ X (.type "int") (fun xs H Q=>(∃ i,xs=[.int i]/\Q (.int i) H)\/∃ k,xs=[.bl k]/\Q (.int (if k then 1 else 0)) H):=by
 intro pins s σ H xs us Q I r h;rcases h with ⟨i,rfl,q⟩ | ⟨k,rfl,q⟩
 ·obtain ⟨u,rfl,t,rfl⟩:=vals1 r;exact call_int_int ⟨.int i,H,I,⟨_,rfl⟩,q⟩
 ·obtain ⟨u,rfl,r1⟩:=vals1 r;cases r1;exact call_int_bool ⟨.int (if k then 1 else 0),H,I.tok _,⟨_,rfl⟩,q⟩
noncomputable def GL (K:Fg) (x:V) (H:Hp) (n:Nat):Prop :=
 match x with
 | .str y=>y.length<=sizeLine/\n=y.length
 | .byt y=>y.size<=sizeLine/\n=y.size
 | .ref p=>(∃ xs,SqL K H p xs/\n=xs.length)\/∃ xs,SqT K H p xs/\n=xs.length
 | _=>False
theorem uK:aQ X (.builtin "len") (fun xs H Q=>∃ x n,xs=[x]/\GL X.K x H n/\Q (.int n) H):=by
 intro pins s σ H xs us Q I r h;obtain ⟨x,n,rfl,e,q⟩:=h;obtain ⟨u,rfl,rx⟩:=vals1 r;have hl:=iN;have hs:sizeLine=16777216:=J3;cases x with
 | str y =>
  obtain ⟨t,rfl⟩:=rx;obtain ⟨hy,e'⟩:y.length<=sizeLine/\n=y.length:=e;subst e';exact len_str (by omega) ⟨.int _,H,I.tok _,⟨_,rfl⟩,q⟩
 | byt y =>
  obtain ⟨t,rfl⟩:=rx;obtain ⟨hy,e'⟩:y.size<=sizeLine/\n=y.size:=e;subst e';exact PySem.W.len_bytes (by omega) ⟨.int _,H,I.tok _,⟨_,rfl⟩,q⟩
 | ref p =>
  cases rx;have e':(∃ xs,SqL X.K H p xs/\n=xs.length)\/∃ xs,SqT X.K H p xs/\n=xs.length:=e;rcases e' with ⟨xs,hx,e'⟩ | ⟨xs,hx,e'⟩
  ·subst e';obtain ⟨its,r',pl,hz⟩:=I.list hx;have hlen:=r'.length;exact Calls.call_len_list pl.isList (by simp only [IW];omega) ⟨.int xs.length,H,I.tok _,⟨_,by simp only [IW];rw [hlen]⟩,q⟩
  ·subst e';obtain ⟨its,r',pl,hz⟩:=I.tuple hx;have hlen:=r'.length;exact len_tuple pl (by simp only [IW];omega) ⟨.int xs.length,H,I.tok _,⟨_,by simp only [IW];rw [hlen]⟩,q⟩
 | _=>exact (show False from e).elim
end
end L2
namespace L2
open PySem PySem.Spec PyProof.Rows
section
variable {prog:Program} {w:World} {A:Around} {E:Value->Shared->Prop} {s:Shared} {K:Fg} {x dx C f:Addr} {mA:Str->Option Value} {name:Str} {v:Value}
end
section
variable {P:Program} {w:World} {H H':Hp} {h h':Heap} {a C dx:Addr} {fs fs':List (Str×V)}
end
section
variable {X:Cx} {pins:List (Addr×Obj)} {σ:St} {H:Hp} {s:Shared} {a C dx:Addr} {fs:List (Str×V)} {f:Str} {v:V} {A:Around} {E:Value->Shared->Prop}
end
section
variable {X:Cx} {o e value:Expr} {f:Str} {pos pos' tpos:Pos} {ta tv:TE}
end
section
variable {X:Cx} {pins:List (Addr×Obj)} {σ:St} {H:Hp} {s:Shared} {A:Around} {E:Value->Shared->Prop} {Q:Value->Shared->Prop} {c:Value} {b:Bool}
end
end L2
namespace L2
open PySem PySem.Spec PyProof.Rows
structure cQ (k:Nat) (A:Around):Prop where
 hd:A.handled=none
 dp:A.depth+3*k+5 < recursionLimit
 un:A.units+16*k+200 < cLine
 gd:A.guards=some []
theorem cQ.mono {j k:Nat} {A:Around} (r:cQ k A) (h:j<=k):cQ j A:=⟨r.hd,by have:=r.dp;omega,by have:=r.un;omega,r.gd⟩
theorem cQ.deeper {k:Nat} {A:Around} (r:cQ (k+1) A) (env:Env):cQ k (A.deeper env) :=
 ⟨r.hd,by have:=r.dp;show A.depth+1+3*k+5 < _;omega,by have:=r.un;show A.units+3+16*k+200 < _;omega,r.gd⟩
theorem cQ.in1 {k:Nat} {A:Around} (r:cQ (k+1) A):cQ k A.in1 :=
 ⟨r.hd,by have:=r.dp;show A.depth+3*k+5 < _;omega,by have:=r.un;show A.units+1+16*k+200 < _;omega,r.gd⟩
theorem cQ.depth {k:Nat} {A:Around} (r:cQ k A):A.depth < recursionLimit:=by have:=r.dp;omega
theorem cQ.units {k:Nat} {A:Around} (r:cQ k A):A.units+64 < cLine:=by have:=r.un;omega
theorem cQ.Ap {k:Nat} {A:Around} (r:cQ k A):A.units < cLine:=by have:=r.un;omega
noncomputable def kM:TA:=fun _ H Q=>Q [] H
noncomputable def cF (ta:TE) (tr:TA):TA:=fun σ H Q=>ta σ H fun x H1=>tr σ H1 fun xs H2=>Q (x :: xs) H2
section
variable {X:Cx} {e:Expr} {es:List Expr} {te:TE} {t:TA} {pos:Pos}
theorem Ak:PA X [] kM:=fun _ _ _ _ H Q I h=>Calls.spliced_nil ⟨[],H,I,.nil,h⟩
theorem xB (ha:PE X e te) (hr:PA X es t) (hs:starEach (e :: es) X.env=(false,eval e X.env) :: starEach es X.env:=by rfl):PA X (e :: es) (cF te t):=by
 intro pos pins s σ H Q I h;rw [hs];show wpAny _ _ (spliced ((false,eval e X.env) :: backTo pos (starEach es X.env))) _ _ s;refine Calls.spliced_cons (thn (ha pins s σ H _ I h) fun u s1 ⟨x,H1,I1,r1,q1⟩=>?_);exact thn (hr pos pins s1 σ H1 _ I1 q1) fun us s2 ⟨xs,H2,I2,r2,q2⟩=>⟨x :: xs,H2,I2,.cons r1 r2,q2⟩
noncomputable def CY (t:TA):TE:=fun σ H Q=>t σ H fun xs H1=>xs.length<=sizeLine/\∀ p,H1 p=none->Q (.ref p) (upd H1 p (.tup xs))
noncomputable def ER (t:TA):TE:=fun σ H Q=>t σ H fun xs H1=>xs.length<=sizeLine/\∀ p,H1 p=none->Q (.ref p) (upd H1 p (.lst xs))
theorem BJ {x1} (h:PA X es t):PE X (.Tuple es x1 pos) (CY t):=by
 intro pins s σ H Q I hq;refine wpAny_Tuple_spliced (thn (h pos pins s σ H _ I hq) fun us s1 ⟨xs,H1,I1,r,z,q⟩=>⟨by rw [<- r.length];exact z,?_⟩);have hf:H1 s1.heap.objs.size=none:=I1.hok.fresh (IY _);refine ⟨.ref s1.heap.objs.size,upd H1 s1.heap.objs.size (.tup xs),I1.laid (t':=s1.toks) (fun b u e=>IQ _ e) (IY _) ?_,rfl,q _ hf⟩;exact ⟨z,us,r,⟨_,Jk _ rfl,rfl,_,rfl⟩⟩
theorem BQ (h:PA X es t):PE X (.List es pos) (ER t):=by
 intro pins s σ H Q I hq;refine wpAny_List_spliced (thn (h pos pins s σ H _ I hq) fun us s1 ⟨xs,H1,I1,r,z,q⟩=>⟨by rw [<- r.length];exact z,?_⟩);have hf:H1 s1.heap.objs.size=none:=I1.hok.fresh (IY _);refine ⟨.ref s1.heap.objs.size,upd H1 s1.heap.objs.size (.lst xs),I1.laid (t':=s1.toks) (fun b u e=>IQ _ e) (IY _) ?_,rfl,q _ hf⟩;exact ⟨z,us,0,r,Jk _ rfl⟩
end
noncomputable abbrev Sp:=List V->Hp->VK->XK->Prop
noncomputable abbrev CXT:=List Env->Hp->Shared->XK->Value->Shared->Prop
structure CF (P:Program) (w:World) (K:Fg) (mg:Str->Option Value) (base:Heap) (A:Around) (outer:List Env) (s:Shared) (H:Hp):Prop where
 frames:A.frames=some outer
 mod:Mod K mg base
 bs:∀ b o,base.get? b=some o->s.heap.get? b=some o/\H b=none
 bsz:base.objs.size<=s.heap.objs.size
 nY:s.heap.FunFrames base outer
 frf:∀ b∈frs outer,H b=none
 hok:HOk P w H s.heap
 bare:AllBare s.gens
noncomputable def CE (outer:List Env) (P:Program) (w:World) (H:Hp) (s:Shared) (Q:VK) (u:Value) (s':Shared):Prop :=
 ∃ v H',s'.os=s.os/\AllBare s'.gens/\Un (frs outer) [] H H' s.heap s'.heap/\HOk P w H' s'.heap/\RelV v u/\Q v H'
noncomputable def CR (CX:CXT) (outer:List Env) (P:Program) (w:World) (H:Hp) (s:Shared) (Q:VK) (E:XK) (r:Result) (s':Shared):Prop :=
 match r with
 | .ok (.ret u)=>CE outer P w H s Q u s'
 | .ok _=>False
 | .error e=>CX outer H s E e s'
structure ba (P:Program) (w:World) (K:Fg) (mg:Str->Option Value) (base:Heap) (CX:CXT) (k:Nat) (f:Addr) (fd:FuncData) (ps:List Str) (sp:Sp):Prop where
 len:∀ vs H Q E,sp vs H Q E->vs.length=ps.length
 run:∀ (A:Around) (outer:List Env) (s:Shared) (H:Hp) (args:Args) (us:List Value) (vs:List V) (Q:VK) (E:XK),cQ k A->CF P w K mg base A outer s H->BindsTo s fd args (ps.zip us)->Vals vs us->sp vs H Q E ->
  codeAny (model P w) A (.call (.ref f) args) (CR CX outer P w H s Q E) s
section
variable {X:Cx} {pins:List (Addr×Obj)} {σ:St} {H:Hp} {s s':Shared}
theorem Inv.ES (I:Inv X pins σ H s):CF X.prog X.w X.K X.mg X.base X.A X.stack s H :=
 ⟨I.ok.frames,I.ok.mod,I.bs,Jt I.ok.bsz I.sz,I.stack,I.pI,I.hok,I.bare⟩
theorem Inv.after {Q:VK} {u:Value} (I:Inv X pins σ H s) (h:CE X.stack X.prog X.w H s Q u s'):EP X pins σ Q u s':=by
 obtain ⟨v,H',os,bare,un,hok,r,q⟩:=h;obtain ⟨hh,g,d,t,os'⟩:=s';obtain rfl:os'=s.os:=os;exact ⟨v,H',I.call (h':=hh) (g':=g) (d':=d) (t':=t) (ch:=[]) un hok bare (fun b z=>absurd z (by simp)),r,q⟩
end
noncomputable def p9 (sp:Sp) (dvs:List V) (E:XK) (t:TA):TE:=fun σ H Q=>t σ H fun vs H1=>sp (vs++dvs) H1 Q E
noncomputable def Binds (K:Fg) (fd:FuncData) (ps:List Str) (ds:List Value):Prop :=
 ∀ (s:Shared) (us:List Value),K.In s.heap->(us++ds).length=ps.length->BindsTo s fd ⟨us,[]⟩ (ps.zip (us++ds))
theorem Binds.all {K:Fg} {fd:FuncData} {ps:List Str} (h:∀ us:List Value,us.length=ps.length->bindArgs fd ⟨us,[]⟩=pure (ps.zip us)):Binds K fd ps []:=fun s us _ hl=>by
 rw [Jp] at hl ⊢;exact .of_eq (h us hl)
noncomputable def Passes (CX:CXT) (X:Cx) (E:XK):Prop:=∀ (pins:List (Addr×Obj)) (σ:St) (H:Hp) (s:Shared) (e:Value) (s':Shared),Inv X pins σ H s->CX X.stack H s E e s'->X.xe e s'
section
variable {X:Cx} {CX:CXT} {k:Nat} {f C:Addr} {fd:FuncData} {ps:List Str} {sp:Sp} {dvs:List V} {ds:List Value} {E:XK} {x m:Str} {p pos apos:Pos} {e o:Expr} {es:List Expr} {ta:TE} {t:TA}
theorem vL {pins:List (Addr×Obj)} {σ:St} {H:Hp} {s:Shared} {Q:VK} {us:List Value} {vs:List V} (F:ba X.prog X.w X.K X.mg X.base CX k f fd ps sp) (hr:cQ k X.A) (hb:Binds X.K fd ps ds) (hd:Vals dvs ds) (hx:Passes CX X E)
  (I:Inv X pins σ H s) (r:Vals vs us) (h:sp (vs++dvs) H Q E):wpAny (model X.prog X.w) X.A (call (.ref f) us) (EP X pins σ Q) X.xe s:=by
 have r2:Vals (vs++dvs) (us++ds):=r.append hd;have hl:(us++ds).length=ps.length:=by rw [<- r2.length];exact F.len _ _ _ _ h
 refine wpAny_call (codeAny_mono (F.run X.A X.stack s H ⟨us,[]⟩ (us++ds) (vs++dvs) Q E hr I.ES (hb s us I.kIn hl) r2 h) fun r s' hq=>?_);cases r with
 | error e=>exact hx pins σ H s e s' I hq
 | ok fl =>
  cases fl with
  | ret u=>exact I.after hq
  | next=>exact False.elim hq
  | brk=>exact False.elim hq
  | cont=>exact False.elim hq
theorem xy (F:ba X.prog X.w X.K X.mg X.base CX k f fd ps sp) (hr:cQ k X.A) (hg:Gl X x) (hm:X.mg x=some (.ref f)) (hk:PySem.W.keepIn X.K (.ref f)=true) (hb:Binds X.K fd ps ds) (hd:Vals dvs ds) (hx:Passes CX X E)
  (ha:PA X (e :: es) t) (hdb:(x==("__debug__" : Str))=false:=by decide) (he:starEach (e :: es) X.env=(false,eval e X.env) :: starEach es X.env:=by rfl) (hpl:(backTo pos (starEach es X.env)).any (·.1)=false:=by rfl) :
  PE X (.Call (.Name x p) (e :: es) [] pos) (p9 sp dvs E t):=by
 intro pins s σ H Q I h;refine Lv (sG I hg hm ?_ hdb);refine PySem.W.callWith_K (h₀:=X.base) I.ok.mod.kin hk (thn (ha pos pins s σ H _ I h) fun us s1 ⟨vs,H1,I1,r,q⟩=>⟨I1.kIn,?_⟩) he hpl;exact vL F hr hb hd hx I1 r q
end
noncomputable def PK (X:Cx) (kws:List Keyword) (t:TA):Prop :=
 ∀ (pos:Pos) (pins:List (Addr×Obj)) (s:Shared) (σ:St) (H:Hp) (Q:List V->Hp->Prop),Inv X pins σ H s->t σ H Q->wpAny (model X.prog X.w) X.A (evalAll ((backToKw pos (keywordEach kws X.env)).map (·.2))) (AP X pins σ Q) X.xe s
section
variable {X:Cx} {CX:CXT} {k:Nat} {f C:Addr} {fd:FuncData} {ps ks:List Str} {sp:Sp} {E:XK} {x m:Str} {p pos apos kpos:Pos} {e o:Expr} {es:List Expr} {kws:List Keyword} {te ta:TE} {t tk:TA} {nm:Option Str}
theorem AR:PK X [] kM:=fun _ _ _ _ H Q I h=>wpAny_evalAll_nil ⟨[],H,I,.nil,h⟩
theorem xf (ha:PE X e te) (hr:PK X kws t):PK X (⟨nm,e,kpos⟩ :: kws) (cF te t):=by
 intro pos pins s σ H Q I h;show wpAny _ _ (evalAll ((do let v<-eval e X.env;standAt pos;pure v) :: (backToKw pos (keywordEach kws X.env)).map (·.2))) _ _ s;refine wpAny_evalAll_cons (IF (thn (ha pins s σ H _ I h) fun u s1 ⟨x,H1,I1,r1,q1⟩=>IF (wpAny_standAt (IJ ?_))));exact thn (hr pos pins s1 σ H1 _ I1 q1) fun us s2 ⟨xs,H2,I2,r2,q2⟩=>⟨x :: xs,H2,I2,.cons r1 r2,q2⟩
variable {g:List Value->List Value->List Value} {gV:List V->List V->List V}
end
structure af (N P:List Str) (sc:Scope):Prop where
 kind:sc.kind=.function
 co:sc.isCoroutine=false
 gen:sc.isGenerator=false
 nd:N.Nodup
 pre:N.take P.length=P
 par:∀ x∈P,sc.names.lookup x=some .local\/sc.names.lookup x=some .cell
 Ai:∀ y∈sc.names,y.2≠.free
theorem kA {kindOf:Str->Option NameKind} {x:Str}:∀ {binds:List (Str×Value)} {m:Str->Option Value},(∀ v,(x,v) ∉ binds)->bindL kindOf binds m x=m x
 | [],_,_=>rfl
 | (n,v) :: r,m,h=>by
  unfold bindL;rw [kA fun w hw=>h w (IZ _ hw)];split
  ·have:x≠n:=by rintro rfl;exact h v IP
   simp [this]
  ·rfl
theorem kq {kindOf:Str->Option NameKind} {x:Str}:∀ {binds:List (Str×Value)} {m:Str->Option Value},(∀ v,(x,v) ∉ binds)->bindC kindOf binds m x=m x
 | [],_,_=>rfl
 | (n,v) :: r,m,h=>by
  unfold bindC;rw [kq fun w hw=>h w (IZ _ hw)];split
  ·rfl
  ·have:x≠n:=by rintro rfl;exact h v IP
   simp [this]
theorem kh {kindOf:Str->Option NameKind} {x:Str} {v:Value}:∀ {P:List Str} {vs:List Value} {i:Nat} {m:Str->Option Value},P.Nodup->P[i]?=some x->vs[i]?=some v->kindOf x=some .local ->
  bindL kindOf (P.zip vs) m x=some v
 | [],_,_,_,_,h,_,_=>by simp at h
 | _ :: _,[],_,_,_,_,h,_=>by simp at h
 | p :: P,w :: vs,0,m,nd,h1,h2,hk=>by
  simp at h1 h2;subst h1;subst h2;show bindL kindOf ((p,w) :: P.zip vs) m p=_;unfold bindL;rw [kA fun v hv=>(J4.mp nd).1 (List.of_mem_zip hv).1,IV hk];simp
 | p :: P,w :: vs,i+1,m,nd,h1,h2,hk=>by
  show bindL kindOf ((p,w) :: P.zip vs) m x=_;unfold bindL;exact kh (i:=i) (J4.mp nd).2 (by simpa using h1) (by simpa using h2) hk
theorem jO {kindOf:Str->Option NameKind} {x:Str} {v:Value}:∀ {P:List Str} {vs:List Value} {i:Nat} {m:Str->Option Value},P.Nodup->P[i]?=some x->vs[i]?=some v->kindOf x≠some .local ->
  bindC kindOf (P.zip vs) m x=some v
 | [],_,_,_,_,h,_,_=>by simp at h
 | _ :: _,[],_,_,_,_,h,_=>by simp at h
 | p :: P,w :: vs,0,m,nd,h1,h2,hk=>by
  simp at h1 h2;subst h1;subst h2;show bindC kindOf ((p,w) :: P.zip vs) m p=_;unfold bindC;rw [kq fun v hv=>(J4.mp nd).1 (List.of_mem_zip hv).1,IU hk];simp
 | p :: P,w :: vs,i+1,m,nd,h1,h2,hk=>by
  show bindC kindOf ((p,w) :: P.zip vs) m x=_;unfold bindC;exact jO (i:=i) (J4.mp nd).2 (by simpa using h1) (by simpa using h2) hk
noncomputable def start (N:List Str) (vs:List V):St:=vs.map some++List.replicate (N.length - vs.length) none
noncomputable def vm (CX:CXT) (P:Program) (w:World) (K:Fg) (mg:Str->Option Value) (base:Heap) (N:List Str) (qual:Str) (scope:Scope) (f:Addr) (cd:Value) (A:Around) (outer:List Env) (s:Shared) (H:Hp) (E:XK):Cx where
 prog:=P
 w:=w
 K:=K
 mg:=mg
 base:=base
 A:=A.deeper (envOfC qual scope s.heap.objs.size f cd)
 N:=N
 s₀:=s
 H₀:=H
 env:=envOfC qual scope s.heap.objs.size f cd
 outer:=outer
 stack:=envOfC qual scope s.heap.objs.size f cd :: outer
 ex:=[]
 calm:=true
 fn:=fun _=>true
 pn:=[]
 xe:=fun e s'=>wpAny (model P w) (A.deeper (envOfC qual scope s.heap.objs.size f cd)) (leaving (envOfC qual scope s.heap.objs.size f cd) e) (fun _ s''=>CX outer H s E e s'') (fun e' s''=>CX outer H s E e' s'') s'
theorem m5 {sc:Scope} {n:Nat} {x:Str} (h:sc.names.lookup x=some .cell):∃ c,(cellsFrom n sc.names []).lookup x=some c:=by
 have q:=PySem.W.cellsFrom_some sc.names n [] (.inl h);exact Option.isSome_iff_exists.mp q
theorem o6 {CX:CXT} {P:Program} {w:World} {K:Fg} {mg:Str->Option Value} {base:Heap} {N ps:List Str} {qual:Str} {scope:Scope} {f:Addr} {cd:Value} {A:Around} {outer:List Env} {s s1:Shared} {H:Hp} {E:XK} {us:List Value} {vs:List V}
  (S:af N ps scope) (hd:A.handled=none) (e0:CF P w K mg base A outer s H) (hl:vs.length=ps.length) (r:Vals vs us)
  (x:InCallC s s.heap.objs.size (bindL (envOfC qual scope s.heap.objs.size f cd).kindOf (ps.zip us) fun _=>none) (cellsFrom (s.heap.objs.size+1) scope.names []) (bindC (envOfC qual scope s.heap.objs.size f cd).kindOf (ps.zip us) fun _=>none) s1) :
  Inv (vm CX P w K mg base N qual scope f cd A outer s H E) [] (start N vs) H s1:=by
 have hpl:ps.length<=N.length:=by have:=congrArg List.length S.pre;rw [JR] at this;omega
 obtain ⟨h1,tk,rfl,hk⟩:=x.done;have noA:∀ b:Addr,b ∉ (vm CX P w K mg base N qual scope f cd A outer s H E).ex:=fun b z=>absurd (show b∈([]:List Addr) from z) (by simp)
 refine ⟨⟨e0.mod,S.kind,rfl,rfl,IY _,fun y z c h1 h2=>?_,fun y hy=>?_,fun y c _ h=>?_,fun _=>hd,Around.frames_deeper e0.frames,.inr ⟨rfl,rfl⟩,fun b z=>absurd z (noA b),e0.bs,e0.bsz,fun b _ _=>noA b,fun b z=>absurd z (noA b),e0.nY,e0.frf⟩,
  rfl,e0.bare,Un.kept hk,⟨_,x.toInCall.ns,fun i y v h1 h2 h3=>?_⟩,fun y c h=>⟨_,x.cell y c h⟩,e0.hok.fresh (IY _),fun y c h=>?_,fun p hp=>absurd (show p∈([]:List (Addr×Obj)) from hp) (by simp),e0.hok.kept hk,?_⟩
 ·exact name_of_addr x.apart (K2 h1) (K2 h2)
 ·have hy:scope.names.lookup y=some .cell\/scope.names.lookup y=some .free:=hy;rcases hy with hy | hy
  ·exact m5 hy
  ·exact absurd rfl (S.Ai _ (K2 hy))
 ·exact Ls (x.above y c (K2 h))
 ·have hi:i < vs.length:=by
   unfold start at h2;by_cases hi:i < vs.length
   ·exact hi
   ·rw [IM (by simpa using hi)] at h2;rw [List.getElem?_replicate] at h2;split at h2 <;> cases h2
  have ha:vs[i]?=some v:=by
   unfold start at h2;rw [Jg (by simpa using hi),IX] at h2;cases e:vs[i]? with
   | none=>rw [e] at h2;cases h2
   | some a=>rw [e] at h2;cases h2;rfl
  obtain ⟨u,hu,rv⟩:=r.get ha;have hp:ps[i]?=some y:=by
   rw [<- S.pre,List.getElem?_take_of_lt (by omega)];exact h1
  have ndP:ps.Nodup:=by rw [<- S.pre];exact S.nd.sublist (List.take_sublist _ _)
  refine ⟨u,rv,?_⟩;rcases S.par y (Jl hp) with k | k
  ·exact .inl ⟨k,kh ndP hp hu k⟩
  ·obtain ⟨c,e⟩:=m5 (n:=s.heap.objs.size+1) k;refine .inr ⟨.inl k,c,e,?_⟩;have q:=x.cell y c e;rw [jO ndP hp hu (by show scope.names.lookup y≠_;rw [k];decide)] at q;exact q
 ·exact e0.hok.fresh (Ls (x.above y c (K2 h)))
 ·unfold start;show _=N.length;rw [IH,II,LX];omega
theorem Eh {CX:CXT} {P:Program} {w:World} {K:Fg} {mg:Str->Option Value} {base:Heap} {k:Nat} {f:Addr} {name qual:Str} {params:Arguments} {body:List Stmt} {scope:Scope} {dV kV doc pm cdv ct oc:Value} {an od:Option Addr}
  {osl:Array (Option Value)} {N ps:List Str} {sp:Sp} (lk:K.lookup f=some ⟨oc,od,.func (PySem.W.fnOf name qual params body scope dV kV doc pm an cdv ct),osl⟩) (hcd:PySem.W.codeIn K cdv qual=true) (S:af N ps scope)
  (len:∀ vs H Q E,sp vs H Q E->vs.length=ps.length)
  (hbody:∀ (A:Around) (outer:List Env) (s:Shared) (H:Hp) (vs:List V) (Q:VK) (E:XK),cQ k (A.deeper (envOfC qual scope s.heap.objs.size f cdv))->sp vs H Q E ->
   ∃ t,PSs (vm CX P w K mg base N qual scope f cdv A outer s H E) body t/\t { nx:=fun _ H'=>Q .non H',rt:=Q } (start N vs) H) :
  ba P w K mg base CX (k+1) f (PySem.W.fnOf name qual params body scope dV kV doc pm an cdv ct) ps sp:=by
 refine ⟨len,fun A outer s H args us vs Q E hr e0 hb r hsp=>?_⟩;have hl:=len _ _ _ _ hsp;have KX:K.In s.heap:=e0.mod.kin.keeps fun b o e=>(e0.bs b o e).1;have lim:s.heap.NoLimit:=e0.mod.nolimit.keeps fun b o e=>(e0.bs b o e).1;have hkind:∀ y∈ps.zip us,scope.names.lookup y.1=some .local\/(scope.names.lookup y.1=some .cell/\((cellsFrom (s.heap.objs.size+1) scope.names []).lookup y.1).isSome=true):=fun ⟨n,v⟩ hy=>by
  rcases S.par n (List.of_mem_zip hy).1 with q | q
  ·exact .inl q
  ·exact .inr ⟨q,PySem.W.cellsFrom_some _ _ _ (.inl q)⟩
 refine codeAny_call_function hr.depth (KX _ _ lk) rfl S.co S.gen rfl (PySem.W.codeRec_of KX hcd) (hb _ _ _ _ ?_);refine wpAny_newFunctionEnv_cells S.kind hkind fun env he s1 x=>?_;subst he;refine ⟨lim.keeps x.toInCall.keep,codeAny_func ?_⟩;obtain ⟨t,ht,hq⟩:=hbody A outer s H vs Q E (hr.deeper _) hsp;have I:Inv (vm CX P w K mg base N qual scope f cdv A outer s H E) [] (start N vs) H s1:=o6 S hr.hd e0 hl r x;refine JV (ht [] s1 (start N vs) H _ I hq) (fun fl s' hs=>?_) fun e s' hs=>hs;have fin:∀ {σ':St} {H':Hp} {v:V} {u:Value},Inv (vm CX P w K mg base N qual scope f cdv A outer s H E) [] σ' H' s'->RelV v u->Q v H'->CE outer P w H s Q u s' :=
  fun {σ' H' v u} J rv q=>⟨v,H',J.os,J.bare,J.base,J.hok,rv,q⟩
 cases fl with
 | ret u =>
  obtain ⟨v,σ',H',J,rv,q⟩:=hs;exact fin J rv q
 | next =>
  obtain ⟨σ',H',J,q⟩:=hs;exact fin (v:=V.non) (u:=Value.none) J rfl q
 | brk =>
  obtain ⟨_,_,_,q⟩:=hs;exact False.elim q
 | cont =>
  obtain ⟨_,_,_,q⟩:=hs;exact False.elim q
end L2
namespace L2
open PySem PySem.Spec PyProof.Rows
section
variable {X:Cx} {x:Str} {p pos:Pos} {e:Expr} {es:List Expr} {t:TA} {id T:String} {r:List V->Hp->VK->Prop}
noncomputable def tCB (r:List V->Hp->VK->Prop) (t:TA):TE:=fun σ H Q=>t σ H fun vs H1=>r vs H1 Q
theorem uZ (hc:aQ X (.builtin id) r) (hg:Gl X x) (hm:X.mg x=none) (hv:bootBuiltins x=some (.builtin id)) (ha:PA X (e :: es) t) (hn:x ≠ "__name__" := by decide) (hdb:(x==("__debug__" : Str))=false:=by decide)
  (he:starEach (e :: es) X.env=(false,eval e X.env) :: starEach es X.env:=by rfl) (hpl:(backTo pos (starEach es X.env)).any (·.1)=false:=by rfl):PE X (.Call (.Name x p) (e :: es) [] pos) (tCB r t):=by
 intro pins s σ H Q I h;refine Lv (hG I hg hm hv ?_ hn hdb);exact PyProof.Rows.callWith_builtin1 (thn (ha pos pins s σ H _ I h) fun us s1 ⟨vs,H1,I1,r1,q1⟩=>hc pins s1 σ H1 vs us Q I1 r1 q1) he hpl
theorem q0 (hc:aQ X (.type T) r) (hg:Gl X x) (hm:X.mg x=none) (hv:bootBuiltins x=some (.type T)) (ha:PA X (e :: es) t) (hn:x ≠ "__name__" := by decide) (hdb:(x==("__debug__" : Str))=false:=by decide)
  (he:starEach (e :: es) X.env=(false,eval e X.env) :: starEach es X.env:=by rfl) (hpl:(backTo pos (starEach es X.env)).any (·.1)=false:=by rfl):PE X (.Call (.Name x p) (e :: es) [] pos) (tCB r t):=by
 intro pins s σ H Q I h;refine Lv (hG I hg hm hv ?_ hn hdb);exact PyProof.Rows.callWith_type1 (thn (ha pos pins s σ H _ I h) fun us s1 ⟨vs,H1,I1,r1,q1⟩=>hc pins s1 σ H1 vs us Q I1 r1 q1) he hpl
end
end L2
namespace HT
open PySem PyProof.Rows
section
open PySem.SeqAt
open PySem.AutoSeq1 (wpAny_loadPart')
open PySem.MeetsSeq PySem.MeetsSeq2 PySem.MeetsSeq3
end
section
variable {prog:Program} {w:World} {A:Around} {E:Value->Shared->Prop} {s:Shared}
theorem yV {t b:Addr} {vs ws:List Value} {Q:Value->Shared->Prop} (ht:IsTup s.heap t vs.toArray) (hb:IsTup s.heap b ws.toArray) (hv:vs≠[])
  (h1:ws=[]->Q (.ref t) s) (h2:ws≠[]->Q (.ref s.heap.objs.size) { s with heap:=s.heap.push { cls:=.type "tuple", data:=.seq (vs++ws).toArray } })
  (hsz:vs.length+ws.length<=sizeLine):wpAny (model prog w) A (binaryOp .Add (.ref t) (.ref b)) Q E s:=by
 obtain ⟨⟨cls,dd,data,sl⟩,ho,hc,n,hd⟩:=id ht;obtain ⟨⟨cls2,dd2,data2,sl2⟩,ho2,hc2,n2,hd2⟩:=id hb;simp only at hc hd hc2 hd2;subst hc hd hc2 hd2;have e:vs.toArray++ws.toArray=(vs++ws).toArray:=by simp
 by_cases hw:ws=[]
 ·exact concat_meets ⟨_,ho,rfl⟩ ⟨_,ho2,rfl⟩ noFill_tuple_add seq_tuple_add PySem.F.slot_tuple_add PySem.F.entry_tuple_add (PySem.F.args_tuple_add_2 _ _)
   (tuple_addW1 t b vs.toArray ws.toArray n n2 dd dd2 sl sl2 (by simpa using hv) (by simp [hw])) ⟨ho,ho2,h1 hw⟩
 ·refine concat_meets ⟨_,ho,rfl⟩ ⟨_,ho2,rfl⟩ noFill_tuple_add seq_tuple_add PySem.F.slot_tuple_add PySem.F.entry_tuple_add (PySem.F.args_tuple_add_2 _ _)
   (tuple_addW2 t b vs.toArray ws.toArray n n2 dd dd2 sl sl2 (by simpa using hv) (by simpa using hw) (by rw [IW,IW];exact hsz)) ⟨ho,ho2,?_⟩
  rw [e];exact h2 hw
noncomputable def sIx (n d:Nat):Option Int->Nat
 | none=>d
 | some v=>if v < 0 then (v+(n:Int)).toNat else min v.toNat n
theorem ma (n d:Nat) (hd:d<=n) (o:Option Int):sIx n d o<=n:=by
 cases o with
 | none=>exact hd
 | some v =>
  show (if v < 0 then (v+(n:Int)).toNat else min v.toNat n)<=n;by_cases hv:v < 0
  ·rw [IV hv];omega
  ·rw [IU hv];exact Nat.min_le_right _ _
theorem pN (v:Int) (n d:Nat):(if v < 0 then max (v+(n:Int)) 0 else min v (n:Int))=((sIx n d (some v):Nat):Int):=by
 show (if v < 0 then max (v+(n:Int)) 0 else min v (n:Int))=(((if v < 0 then (v+(n:Int)).toNat else min v.toNat n):Nat):Int);by_cases hv:v < 0
 ·simp only [IV hv];omega
 ·simp only [IU hv];omega
theorem nK (lo hi:Option Int) (n:Nat):Builtin.Slice.sliceAdjust lo hi 1 (n:Int)=(((sIx n 0 lo:Nat):Int),((sIx n n hi:Nat):Int)):=by
 have h1:¬((1:Int) < 0):=by omega
 unfold Builtin.Slice.sliceAdjust;simp only [h1,K5];refine Prod.ext ?_ ?_
 ·cases lo with
  | none=>rfl
  | some v=>exact pN v n 0
 ·cases hi with
  | none=>rfl
  | some v=>exact pN v n n
theorem oq (i j:Nat):Builtin.Slice.slicePlaces (i:Int) (j:Int) 1=j - i:=by
 unfold Builtin.Slice.slicePlaces;have h1:(1:Int) > 0:=by omega
 simp only [h1,LF,Int.ediv_one];split <;> omega
theorem ip {v:Value} {o:Option Int} {Q:Option Int->Shared->Prop} (p:IsPart v o) (h:Q o s):wpAny (model prog w) A (Builtin.Slice.slicePartIndex v) Q E s:=by
 cases p with
 | none=>exact slicePart_none h
 | int i t=>exact slicePart_int h
theorem fk {sl:Addr} {vl vu:Value} {lo hi:Option Int} {n:Nat} {Q:Int×Int×Nat->Shared->Prop} (hs:s.heap.IsSliceOf sl vl vu .none) (pl:IsPart vl lo) (pu:IsPart vu hi)
  (h:Q (((sIx n 0 lo:Nat):Int),1,sIx n n hi - sIx n 0 lo) s):wpAny (model prog w) A (Builtin.Slice.sliceApplied (.ref sl) (pure (n:Int))) Q E s:=by
 obtain ⟨os,hos,hcs,hds⟩:=id hs;unfold Builtin.Slice.sliceApplied Builtin.Slice.sliceFields;refine IF (IF (wpAny_field hos hds (x:=vl) rfl (IF (wpAny_field hos hds (x:=vu) rfl (IF (wpAny_field hos hds (x:=.none) rfl (IJ ?_)))))));refine IF (slicePart_none ?_);show wpAny _ _ (if ((1:Int)==0)=true then _ else _) _ _ s;rw [IU (by decide)];refine IF (ip pl (IF (ip pu (IF (IJ ?_)))));show wpAny _ _ (match Builtin.Slice.sliceAdjust lo hi 1 (n:Int) with | (lo,hi)=>pure (lo,(1:Int),Builtin.Slice.slicePlaces lo hi 1)) _ _ s;rw [nK lo hi n];show wpAny _ _ (pure (((sIx n 0 lo:Nat):Int),(1:Int),Builtin.Slice.slicePlaces ((sIx n 0 lo:Nat):Int) ((sIx n n hi:Nat):Int) 1)) _ _ s;rw [oq];exact IJ h
theorem uB (xs:Array Value) (i k:Nat):((List.range k).filterMap fun (m:Nat)=>xs[((i:Int)+(m:Int)*1).toNat]?).toArray=((xs.toList.drop i).take k).toArray:=by
 have e:(fun (m:Nat)=>xs[((i:Int)+(m:Int)*1).toNat]?)=fun m=>xs[i+m]?:=by
  funext m;have:((i:Int)+(m:Int)*1).toNat=i+m:=by omega
  rw [this]
 rw [e];have:=pick_run xs i k;rw [List.filterMap_map] at this;have e2:((fun x=>xs[x]?)∘fun x=>i+x)=fun m=>xs[i+m]?:=rfl;rw [e2] at this;rw [this]
theorem d7 {t sl:Addr} {items:Array Value} {vl vu:Value} {lo hi:Option Int} {Q:Value->Shared->Prop} (ht:IsTup s.heap t items) (hs:s.heap.IsSliceOf sl vl vu .none) (pl:IsPart vl lo) (pu:IsPart vu hi)
  (hw:¬(sIx items.size 0 lo=0/\sIx items.size items.size hi=items.size))
  (h:Q (.ref s.heap.objs.size) { s with heap:=s.heap.push { cls:=.type "tuple", data:=.seq ((items.toList.drop (sIx items.size 0 lo)).take (sIx items.size items.size hi - sIx items.size 0 lo)).toArray } })
  (hsz:items.size<=sizeLine):wpAny (model prog w) A (getItem (.ref t) (.ref sl)) Q E s:=by
 have htake:sizeOk (.seq ((items.toList.drop (sIx items.size 0 lo)).take (sIx items.size items.size hi - sIx items.size 0 lo)).toArray):=by
  show ((items.toList.drop (sIx items.size 0 lo)).take (sIx items.size items.size hi - sIx items.size 0 lo)).toArray.size<=sizeLine;rw [IW,JR,Ki,JJ];omega
 have hj:sIx items.size items.size hi<=items.size:=ma _ _ (IY _) hi;obtain ⟨os,hos,hcs,hds⟩:=id hs;have hTs:s.TypeIs (.ref sl) "slice" := ⟨os,hos,hcs⟩;unfold getItem;try with_reducible refine JX ?_
 first | refine IF (IJ ?_) | skip
 refine IF (wpAny_sequenceKey ht.typeIs (by decide) ?_)
 refine IF (Kj (name:=Str.ofString "__getitem__") ht.typeIs PyProof.Rows.slot_tuple_getitem
  (J6 PyProof.Rows.slot_tuple_getitem ht.typeIs entry_tuple_getitem ?_ (args_tuple_getitem _ _)))
 show wpAny _ _ (Builtin.Tuple.tupleItemsOf (.ref t)>>=_) _ _ s;refine IF (tupleItemsOf_ ht ?_);refine IF (wpAny_typeOf hTs ?_);rw [IV (by decide)];refine IF (fk hs pl pu ?_);have hno:¬((((sIx items.size 0 lo:Nat):Int)==0&&(1:Int)==1&&(sIx items.size items.size hi - sIx items.size 0 lo)==items.size)=true):=by
  intro q;rw [Jx,Jx] at q;have q1:((sIx items.size 0 lo:Nat):Int)=0:=eq_of_beq q.1.1;have q2:sIx items.size items.size hi - sIx items.size 0 lo=items.size:=eq_of_beq q.2;exact hw ⟨by omega,by omega⟩
 show wpAny _ _ (if (((sIx items.size 0 lo:Nat):Int)==0&&(1:Int)==1&&(sIx items.size items.size hi - sIx items.size 0 lo)==items.size)=true then _ else _) _ _ s;rw [IU hno,uB];first
  | exact IF (m:=Builtin.Tuple.tupleExact _) (JU (IJ ⟨_,rfl,IJ h⟩) htake)
  | exact IF (m:=Builtin.Tuple.tupleExact _) (JU (IF (IJ (IJ ⟨_,rfl,IJ h⟩))) htake)
  | exact IF (IF (m:=Builtin.Tuple.tupleExact _) (JU (IJ (IJ ⟨_,rfl,IJ h⟩)) htake))
  | exact IF (IF (m:=Builtin.Tuple.tupleExact _) (JU (IJ ⟨_,rfl,IJ h⟩) htake))
end
end HT
namespace L2
open PySem PySem.Spec PyProof.Rows
noncomputable abbrev TO:=St->Hp->(Option Int->Hp->Prop)->Prop
noncomputable def PO (X:Cx) (e:Option Expr) (t:TO):Prop :=
 ∀ (pins:List (Addr×Obj)) (s:Shared) (σ:St) (H:Hp) (Q:Option Int->Hp->Prop),Inv X pins σ H s->t σ H Q ->
  wpAny (model X.prog X.w) X.A (evalPart e X.env) (fun u s'=>∃ o H',Inv X pins σ H' s'/\IsPart u o/\Q o H') X.xe s
noncomputable def rO:TO:=fun _ H Q=>Q none H
noncomputable def Bi (t:TE):TO:=fun σ H Q=>t σ H fun x H1=>∃ i,x=.int i/\Q (some i) H1
section
variable {X:Cx} {e:Expr} {te:TE} {lo hi:Option Expr} {tl th:TO} {pos p2:Pos}
theorem xj:PO X none rO:=by
 intro pins s σ H Q I h;rw [evalPart_none];exact IJ ⟨none,H,I,.none,h⟩
theorem yC (h:PE X e te):PO X (some e) (Bi te):=by
 intro pins s σ H Q I hw;rw [evalPart_some];refine thn (h pins s σ H _ I hw) fun u s1 ⟨x,H1,I1,r1,q1⟩=>?_;obtain ⟨i,rfl,q⟩:=q1;obtain ⟨t,rfl⟩:=r1;exact ⟨some i,H1,I1,.int i t,q⟩
noncomputable def SlR (X:Cx) (r:V->Option Int->Option Int->Hp->VK->Prop):Prop :=
 ∀ (pins:List (Addr×Obj)) (s:Shared) (σ:St) (H:Hp) (x:V) (v vl vu:Value) (lo hi:Option Int) (sl:Addr) (Q:VK),Inv X pins σ H s->RelV x v->s.heap.IsSliceOf sl vl vu .none->IsPart vl lo->IsPart vu hi->r x lo hi H Q ->
  ∃ T id,typeLookup (.type T) "__getitem__" = pure (some (.builtin id))/\s.TypeIs v T/\wpAny (model X.prog X.w) X.A (getItem v (.ref sl)) (EP X pins σ Q) X.xe s
theorem SlR.or {r r':V->Option Int->Option Int->Hp->VK->Prop} (h:SlR X r) (h':SlR X r'):SlR X (fun x lo hi H Q=>r x lo hi H Q\/r' x lo hi H Q):=by
 intro pins s σ H x v vl vu lo hi sl Q I rx hs pl pu q;rcases q with q | q
 ·exact h pins s σ H x v vl vu lo hi sl Q I rx hs pl pu q
 ·exact h' pins s σ H x v vl vu lo hi sl Q I rx hs pl pu q
noncomputable def tSl (r:V->Option Int->Option Int->Hp->VK->Prop) (te:TE) (tl th:TO):TE:=fun σ H Q=>te σ H fun x H1=>tl σ H1 fun l H2=>th σ H2 fun u H3=>r x l u H3 Q
theorem uN {r:V->Option Int->Option Int->Hp->VK->Prop} (hr:SlR X r) (he:PE X e te) (hl:PO X lo tl) (hu:PO X hi th):PE X (.Subscript e (.Slice lo hi none p2) pos) (tSl r te tl th):=by
 intro pins s σ H Q I h;refine Subscript_ (thn (he pins s σ H _ I h) fun v s1 ⟨x,H1,I1,r1,q1⟩=>?_);refine wpAny_Slice (thn (hl pins s1 σ H1 _ I1 q1) fun vl s2 ⟨l,H2,I2,pl,q2⟩=>thn (hu pins s2 σ H2 _ I2 q2) fun vu s3 ⟨u,H3,I3,pu,q3⟩=>?_);rw [evalPart_none];refine IJ ?_;have I4:Inv X pins σ H3 { s3 with heap:=s3.heap.push { cls:=.type "slice", data:=.fields #[vl,vu,.none] } }:=I3.kept (t':=s3.toks) fun b ob q=>IQ _ q;obtain ⟨T,id,hT,ht,hg⟩:=hr pins { s3 with heap:=s3.heap.push { cls:=.type "slice", data:=.fields #[vl,vu,.none] } } σ H3 x v vl vu l u s3.heap.objs.size Q I4 r1 (Heap.IsSliceOf.new ..) pl pu q3;show wpAny (model X.prog X.w) X.A (subscriptTail e (.Slice lo hi none p2) v (.ref s3.heap.objs.size)) (EP X pins σ Q) X.xe { s3 with heap:=s3.heap.push { cls:=.type "slice", data:=.fields #[vl,vu,.none] } };exact tail_any (ops:=[.ref s3.heap.objs.size,v]) ht hT hg (by with_unfolding_all rfl)
noncomputable def tw (xs:List V) (lo hi:Option Int):List V:=(xs.drop (HT.sIx xs.length 0 lo)).take (HT.sIx xs.length xs.length hi - HT.sIx xs.length 0 lo)
theorem gj (xs:List V) (lo hi:Option Int):(tw xs lo hi).length<=xs.length:=by
 unfold tw;rw [JR,Ki];omega
noncomputable def Hi (K:Fg):V->Option Int->Option Int->Hp->VK->Prop:=fun x lo hi H Q=>∃ a xs,x=.ref a/\SqT K H a xs /\
 ¬(HT.sIx xs.length 0 lo=0/\HT.sIx xs.length xs.length hi=xs.length)/\∀ p,H p=none->Q (.ref p) (upd H p (.tup (tw xs lo hi)))
theorem vt:SlR X (Hi X.K):=by
 intro pins s σ H x v vl vu lo hi sl Q I rx hs pl pu h;obtain ⟨a,xs,rfl,hx,hw,q⟩:=h;cases rx;obtain ⟨its,r,ht,hz⟩:=I.tuple hx;have hlen:its.toArray.size=xs.length:=by rw [IW];exact r.length.symm
 refine ⟨"tuple", _,PyProof.Rows.slot_tuple_getitem.lookup,ht.typeIs,?_⟩;refine HT.d7 ht hs pl pu (by rw [hlen];exact hw) ?_ (by rw [hlen];exact hz);rw [hlen];refine ⟨.ref s.heap.objs.size,_,I.laid (t':=s.toks) (o:=.tup (tw xs lo hi)) (fun b ob q=>IQ _ q) (IY _) ?_,rfl,q _ (I.hok.fresh (IY _))⟩;exact ⟨Jt (gj xs lo hi) hz,_,(r.drop (HT.sIx xs.length 0 lo)).take (HT.sIx xs.length xs.length hi - HT.sIx xs.length 0 lo),IsTup.new _ _⟩
noncomputable def AS (K:Fg):R2:=fun x y H Q=>∃ a b xs ys,x=.ref a/\y=.ref b/\SqT K H a xs/\SqT K H b ys/\xs≠[]/\xs.length+ys.length<=sizeLine /\
 (ys=[]->Q (.ref a) H)/\(ys≠[]->∀ p,H p=none->Q (.ref p) (upd H p (.tup (xs++ys))))
theorem Vals.lh {xs:List V} {us:List Value} (r:Vals xs us):us=[]↔xs=[]:=by
 cases r with
 | nil=>simp
 | cons _ _=>simp
theorem xp:OpR X (binaryOp .Add) (AS X.K):=by
 intro pins s σ H x y v u Q I rx ry h;obtain ⟨a,b,xs,ys,rfl,rfl,ha,hb,hx,hz,q1,q2⟩:=h;cases rx;cases ry;obtain ⟨its,r1,p1,_⟩:=I.tuple ha;obtain ⟨its2,r2,p2,_⟩:=I.tuple hb;refine HT.yV p1 p2 (fun z=>hx (r1.lh.mp z)) (fun z=>⟨.ref a,H,I,rfl,q1 (r2.lh.mp z)⟩) (fun z=>?_) (by rw [<- r1.length,<-r2.length];exact hz);refine ⟨.ref s.heap.objs.size,_,I.laid (t':=s.toks) (o:=.tup (xs++ys)) (fun b ob q=>IQ _ q) (IY _) ?_,rfl,q2 (fun w=>z (r2.lh.mpr w)) _ (I.hok.fresh (IY _))⟩;exact ⟨by rw [IH];exact hz,_,r1.append r2,IsTup.new _ _⟩
end
end L2
namespace L2
open PySem PySem.Spec PyProof.Rows
noncomputable def ixN (n:Nat) (i:Int):Option Nat:=if 0<=i then (if i < n then some i.toNat else none) else if -(n:Int)<=i then some (i+n).toNat else none
noncomputable def atI {α:Type} (xs:List α) (i:Int):Option α:=(ixN xs.length i).bind fun j=>xs[j]?
theorem qz {n:Nat} {i:Int} {j:Nat} (h:ixN n i=some j):seqIndex? i n=some j/\j < n/\-(n:Int)<=i/\i < n:=by
 unfold ixN at h;by_cases h0:0<=i
 ·rw [IV h0] at h;by_cases h1:i < n
  ·rw [IV h1] at h;have e:i.toNat=j:=JQ h;exact ⟨by rw [seqIndex_of h0 h1,e],by omega,by omega,h1⟩
  ·rw [IU h1] at h;cases h
 ·rw [IU h0] at h;by_cases h1:-(n:Int)<=i
  ·rw [IV h1] at h;have e:(i+n).toNat=j:=JQ h;exact ⟨by rw [seqIndex_neg (by omega) h1,e],by omega,h1,by omega⟩
  ·rw [IU h1] at h;cases h
theorem k8 {α:Type} {xs:List α} {i:Int} {v:α} (h:atI xs i=some v):∃ j,seqIndex? i xs.length=some j/\xs[j]?=some v/\j < xs.length/\-(xs.length:Int)<=i/\i < xs.length:=by
 unfold atI at h;cases e:ixN xs.length i with
 | none=>rw [e] at h;cases h
 | some j =>
  rw [e] at h;obtain ⟨h1,h2,h3,h4⟩:=qz e;exact ⟨j,h1,h,h2,h3,h4⟩
theorem pv {α:Type} {xs:List α} {j:Nat} {v:α} (h:xs[j]?=some v):atI xs (j:Int)=some v:=by
 have hj:j < xs.length:=(IK.mp h).1;have e:ixN xs.length (j:Int)=some j:=by
  unfold ixN;rw [IV (by omega),IV (by omega)];simp
 unfold atI;rw [e];exact h
noncomputable def kR (b:Expr):Prop:=∀ o i,subscripted b false o i=operate [o,i] (getItem o i)
noncomputable def IxR (X:Cx) (r:R2):Prop :=
 ∀ (value slice:Expr) (pins:List (Addr×Obj)) (s:Shared) (σ:St) (H:Hp) (x y:V) (v u:Value) (Q:VK),Inv X pins σ H s->RelV x v->RelV y u->r x y H Q ->
  subscripted slice false v u=operate [v,u] (getItem v u)->wpAny (model X.prog X.w) X.A (subscriptTail value slice v u) (EP X pins σ Q) X.xe s
noncomputable def MtR (X:Cx) (id:String) (r:V->List V->Hp->VK->Prop):Prop :=
 ∀ (pins:List (Addr×Obj)) (s:Shared) (σ:St) (H:Hp) (x:V) (xs:List V) (v:Value) (us:List Value) (Q:VK),Inv X pins σ H s->RelV x v->Vals xs us->r x xs H Q ->
  wpAny (model X.prog X.w) X.A (call (.builtin id) (v :: us)) (EP X pins σ Q) X.xe s
section
variable {X:Cx} {a b:Expr} {ta tb:TE} {pos:Pos}
theorem IxR.or {r r':R2} (h:IxR X r) (h':IxR X r'):IxR X (fun x y H Q=>r x y H Q\/r' x y H Q):=by
 intro value slice pins s σ H x y v u Q I rx ry q hs;rcases q with q | q
 ·exact h value slice pins s σ H x y v u Q I rx ry q hs
 ·exact h' value slice pins s σ H x y v u Q I rx ry q hs
theorem E9 {r:R2} (hr:IxR X r) (ha:PE X a ta) (hb:PE X b tb) (hs:kR b):PE X (.Subscript a b pos) (tOp r ta tb):=by
 intro pins s σ H Q I h;exact Subscript_ (Dx ha hb I h fun v u s2 x y H2 I2 rx ry q=>hr a b pins s2 σ H2 x y v u Q I2 rx ry q (hs _ _))
noncomputable def Gn (K:Fg):R2:=fun x y H Q=>∃ p xs i v,x=.ref p/\y=.int i/\SqL K H p xs/\atI xs i=some v/\Q v H
noncomputable def GS (K:Fg):R2:=fun x y H Q=>∃ p xs i v,x=.ref p/\y=.int i/\SqT K H p xs/\atI xs i=some v/\Q v H
noncomputable def GJ:R2:=fun x y H Q=>∃ z i c,x=.str z/\y=.int i/\z.length<=sizeLine/\atI z.cps.toList i=some c/\Q (.str ⟨#[c]⟩) H
theorem yy:IxR X (Gn X.K):=by
 intro value slice pins s σ H x y v u Q I rx ry h hs;obtain ⟨p,xs,i,z,rfl,rfl,hq,he,q⟩:=h;cases rx;obtain ⟨t,rfl⟩:=ry;obtain ⟨its,r,pl,hz⟩:=I.list hq;obtain ⟨j,h1,h2,h3,h4,h5⟩:=k8 he;obtain ⟨w,ew,rw'⟩:=r.get h2;have hl:=r.length;have hn:=iN;have fin:EP X pins σ Q w s:=⟨z,H,I,rw',q⟩;by_cases h0:0<=i
 ·have hj:i.toNat=j:=by
   rw [seqIndex_of h0 h5] at h1;exact JQ h1
  exact item_listR pl.isList h0 (by omega) (by rw [hj];simpa using ew) fin hs
 ·have hj:(i+(its.toArray.size:Int)).toNat=j:=by
   rw [seqIndex_neg (by omega) h4] at h1;rw [IW,<-hl];exact JQ h1
  exact subscriptTail_builtinR (x:=w) pl.isList.typeIs slot_list_getitem.lookup
   (wpAny_getItem_list_neg (Q:=fun r s'=>r=w/\EP X pins σ Q r s') pl.isList (by omega) (by rw [IW] <;> omega) (by omega) (by rw [hj];simpa using ew) ⟨rfl,fin⟩) hs
theorem Bq:IxR X (GS X.K):=by
 intro value slice pins s σ H x y v u Q I rx ry h hs;obtain ⟨p,xs,i,z,rfl,rfl,hq,he,q⟩:=h;cases rx;obtain ⟨t,rfl⟩:=ry;obtain ⟨its,r,pl,hz⟩:=I.tuple hq;obtain ⟨j,h1,h2,h3,h4,h5⟩:=k8 he;obtain ⟨w,ew,rw'⟩:=r.get h2;have hl:=r.length;have hn:=iN;have fin:EP X pins σ Q w s:=⟨z,H,I,rw',q⟩;exact subscriptTail_builtinR (x:=w) pl.typeIs slot_tuple_getitem.lookup
  (getItem_tuple (j:=j) (Q:=fun r s'=>r=w/\EP X pins σ Q r s') pl (by omega) (by omega) (by rw [IW,<-hl];exact h1) (by simpa using ew) ⟨rfl,fin⟩) hs
theorem B4:IxR X GJ:=by
 intro value slice pins s σ H x y v u Q I rx ry h hs;obtain ⟨z,i,c,rfl,rfl,hz,he,q⟩:=h;obtain ⟨t,rfl⟩:=rx;obtain ⟨t',rfl⟩:=ry;obtain ⟨j,h1,h2,h3,h4,h5⟩:=k8 he;have hl:z.cps.toList.length=z.length:=by simp [Str.length]
 rw [hl] at h1 h4 h5;have hn:=iN
 exact tail_any (typeIs_str s z t) slot_str_getitem.lookup (getItem_str (c:=c) (by
  have e1:decide (i < -(2 ^ 63:Int))=false:=Jy (by omega);have e2:decide (i>=2 ^ 63)=false:=Jy (by omega)
  rw [e1,e2,Bool.or_false]) (by rw [h1];simpa using h2) ⟨.str ⟨#[c]⟩,H,I.tok _,⟨_,rfl⟩,q⟩) hs
noncomputable def rIx (K:Fg):R2:=fun x y H Q=>Gn K x y H Q\/GS K x y H Q\/GJ x y H Q
theorem Bk:IxR X (rIx X.K):=yy.or (Bq.or B4)
theorem nM (its:List Value) (n j:Nat) (u:Value):Obj.mapSeq (·.setIfInBounds j u) { cls:=.type "list", data:=.seq its.toArray n }={ cls:=.type "list", data:=.seq (its.set j u).toArray n }:=by
 simp [Obj.mapSeq]
theorem Inv.lst {pins:List (Addr×Obj)} {σ:St} {H:Hp} {s:Shared} {p:Addr} {xs:List V} (I:Inv X pins σ H s) (h:H p=some (.lst xs)) :
  ∃ (its:List Value) (n:Nat),Vals xs its/\s.heap.get? p=some { cls:=.type "list", data:=.seq its.toArray n }/\xs.length<=sizeLine:=by
 obtain ⟨z,its,n,r,e⟩:=I.hok p _ h;exact ⟨its,n,r,e,z⟩
theorem Inv.Aa {pins:List (Addr×Obj)} {σ:St} {H:Hp} {s:Shared} {p:Addr} {xs ys:List V} {its its':List Value} {n n':Nat} {f:Obj->Obj} (I:Inv X pins σ H s) (h:H p=some (.lst xs))
  (ho:s.heap.get? p=some { cls:=.type "list", data:=.seq its.toArray n }) (hf:f { cls:=.type "list", data:=.seq its.toArray n }={ cls:=.type "list", data:=.seq its'.toArray n' }) (r:Vals ys its') (hz:ys.length<=sizeLine) (t:Nat) :
  Inv X pins σ (upd H p (.lst ys)) { s with heap:=s.heap.update p f,toks:=t }:=by
 have e:(s.heap.update p f).get? p=some { cls:=.type "list", data:=.seq its'.toArray n' }:=by
  rw [Ka f ho (by rw [hf] <;> rfl),hf]
 refine I.write (x:=p) (e:=p) (by rw [h];trivial) (.inl rfl) (fun b u hb q=>(J1 _ _ (Ne.symm hb)).trans q) ⟨_,e⟩ ?_;exact ⟨hz,its',n',r,e⟩
noncomputable def Ad:V->V->V->Hp->(Hp->Prop)->Prop:=fun o i v H Q=>∃ p xs k j,o=.ref p/\i=.int k/\H p=some (.lst xs)/\ixN xs.length k=some j/\Q (upd H p (.lst (xs.set j v)))
theorem set_list:ET X Ad:=by
 intro pins s σ H o i v ov iv u Q I ro ri rv h;obtain ⟨p,xs,k,j,rfl,rfl,hp,hj,q⟩:=h;cases ro;obtain ⟨t,rfl⟩:=ri;obtain ⟨its,n,r,ho,hz⟩:=I.lst hp;obtain ⟨h1,h2,h3,h4⟩:=qz hj;have hl:=r.length;have hn:=iN;have I':Inv X pins σ (upd H p (.lst (xs.set j v))) { s with heap:=s.heap.update p (Obj.mapSeq (·.setIfInBounds j u)) } :=
  I.Aa hp ho (nM its n j u) (r.set rv j) (by rw [JB];exact hz) s.toks
 by_cases h0:0<=k
 ·have hk:k.toNat=j:=by
   rw [seqIndex_of h0 h4] at h1;exact JQ h1
  exact PySem.W.ki_setAt ho h0 (by omega) (by rw [IW,<-hl];exact h4) (by rw [hk];exact ⟨_,I',q⟩)
 ·have hk:(k+(its.toArray.size:Int)).toNat=j:=by
   rw [seqIndex_neg (by omega) h3] at h1;rw [IW,<-hl];exact JQ h1
  exact PySem.W.ki_setBack ho (by omega) (by rw [IW,<-hl];exact h3) (by omega) (by rw [hk];exact ⟨_,I',q⟩)
theorem jH (lo hi:Option Int) (n:Nat):(sliceBounds lo hi none n).1=((HT.sIx n 0 lo:Nat):Int)/\(sliceBounds lo hi none n).2.1=((HT.sIx n n hi:Nat):Int)/\(sliceBounds lo hi none n).2.2=1:=by
 refine ⟨?_,?_,rfl⟩
 ·cases lo with
  | none=>simp [sliceBounds,HT.sIx]
  | some i =>
   simp only [sliceBounds,HT.sIx,Option.getD_none,show (1:Int) > 0 by decide,LF];by_cases h:i < 0
   ·simp only [h,LF] <;> omega
   ·simp only [h,K5] <;> omega
 ·cases hi with
  | none=>simp [sliceBounds,HT.sIx]
  | some i =>
   simp only [sliceBounds,HT.sIx,Option.getD_none,show (1:Int) > 0 by decide,LF];by_cases h:i < 0
   ·simp only [h,LF] <;> omega
   ·simp only [h,K5] <;> omega
theorem iT (its:List Value) (lo hi:Option Int):slicePick its.toArray lo hi none=((its.drop (HT.sIx its.length 0 lo)).take (HT.sIx its.length its.length hi - HT.sIx its.length 0 lo)).toArray:=by
 obtain ⟨h1,h2,h3⟩:=jH lo hi its.toArray.size;unfold slicePick;rw [h1,h2,h3];simp only [sliceRange_one,pick_run,IW] <;> rfl
noncomputable def Gm (K:Fg):V->Option Int->Option Int->Hp->VK->Prop:=fun x lo hi H Q=>∃ a xs,x=.ref a/\SqL K H a xs/\∀ p,H p=none->Q (.ref p) (upd H p (.lst (tw xs lo hi)))
theorem oX:SlR X (Gm X.K):=by
 intro pins s σ H x v vl vu lo hi sl Q I rx hs pl pu h;obtain ⟨a,xs,rfl,hx,q⟩:=h;cases rx;obtain ⟨its,r,ht,hz⟩:=I.list hx;have hlen:=r.length;refine ⟨"list", _,slot_list_getitem.lookup,ht.isList.typeIs,?_⟩;refine wpAny_getItem_list_slice ht.isList hs pl pu .none (by simp) ?_ (by rw [IW] <;> omega);rw [iT,<-hlen];refine ⟨.ref s.heap.objs.size,_,I.laid (t':=s.toks) (o:=.lst (tw xs lo hi)) (fun b ob q=>IQ _ q) (IY _) ?_,rfl,q _ (I.hok.fresh (IY _))⟩;exact ⟨Jt (gj xs lo hi) hz,_,0,(r.drop (HT.sIx xs.length 0 lo)).take (HT.sIx xs.length xs.length hi - HT.sIx xs.length 0 lo),Jk _ rfl⟩
theorem jM:OpR X (compareOp .NotIn) (fun x y H Q=>∃ i j,x=.str i/\y=.str j/\Q (.bl (!(!(Builtin.Str.occurrences j i 0 j.length 1).isEmpty))) H):=by
 intro pins s σ H x y v u Q I rx ry h;obtain ⟨i,j,rfl,rfl,q⟩:=h;obtain ⟨t,rfl⟩:=rx;obtain ⟨t',rfl⟩:=ry;exact notIn_str ⟨.bl _,H,I,rfl,q⟩
theorem ja:aQ X (.type "tuple") (fun xs H Q=>∃ p ys,xs=[.ref p]/\((SqL X.K H p ys/\∀ l,H l=none->Q (.ref l) (upd H l (.tup ys)))\/(SqT X.K H p ys/\Q (.ref p) H))):=by
 intro pins s σ H xs us Q I r h;obtain ⟨p,ys,rfl,h⟩:=h;obtain ⟨u,rfl,rx⟩:=vals1 r;cases rx;rcases h with ⟨hq,q⟩ | ⟨hq,q⟩
 ·obtain ⟨its,r',pl,hz⟩:=I.list hq;have hlen:=r'.length;refine call_tuple_list pl.isList (fun h' kp=>?_) (by simp only [IW] <;> omega);have I1:Inv X pins σ H { s with heap:=h' }:=I.kept (t':=s.toks) kp;have I2:Inv X pins σ (upd H h'.objs.size (.tup ys)) { s with heap:=h'.push { cls:=.type "tuple", data:=.seq its.toArray } } :=
   I1.laid (t':=s.toks) (fun b o e=>IQ _ e) (IY _) (show aW X.prog X.w _ _ _ (.tup ys) from ⟨hz,its,r',IsTup.new _ _⟩)
  exact ⟨.ref h'.objs.size,_,I2,rfl,q _ (I1.hok.fresh (IY _))⟩
 ·obtain ⟨its,r',pl,hz⟩:=I.tuple hq;exact call_tuple_same pl ⟨.ref p,H,I,rfl,q⟩
noncomputable def tyV (K:Fg) (T:String) (x:V) (H:Hp):Prop:=match x with
 | .str _=>T = "str"
 | .int _=>T = "int"
 | .ref p=>(T = "list" /\ ∃ xs,SqL K H p xs)\/(T = "tuple" /\ ∃ o,K.lookup p=some o/\o.cls=.type "tuple" /\ o.dict=none) \/
   (T = "dict" /\ ((∃ kvs,H p=some (.dK kvs))\/(∃ kvs,H p=some (.dT kvs))\/∃ ep xs,H p=some (.dD ep xs)))\/(T = "set" /\ ∃ S n,H p=some (.set S n))
 | _=>False
theorem vY {pins:List (Addr×Obj)} {σ:St} {H:Hp} {s:Shared} {T:String} {x:V} {v:Value} (I:Inv X pins σ H s) (r:RelV x v) (ty:tyV X.K T x H) :
  s.TypeIs v T/\∀ a,v=.ref a->∃ ob,s.heap.get? a=some ob/\ob.dict=none:=by
 cases x with
 | str z =>
  obtain ⟨t,rfl⟩:=r;cases (show T = "str" from ty);exact ⟨typeIs_str s z t,fun _ e=>nomatch e⟩
 | int i =>
  obtain ⟨t,rfl⟩:=r;cases (show T = "int" from ty);exact ⟨typeIs_int s i t,fun _ e=>nomatch e⟩
 | ref p =>
  cases r;rcases ty with ⟨rfl,xs,hq⟩ | ⟨rfl,o,hk,hc,hd⟩ | ⟨rfl,hk⟩ | ⟨rfl,S,n,hk⟩
  ·obtain ⟨its,_,pl,_⟩:=I.list hq;refine ⟨pl.isList.typeIs,fun a e=>?_⟩;cases e;obtain ⟨o,n,e,c,hd,_⟩:=pl;exact ⟨o,e,hd⟩
  ·refine ⟨⟨o,I.kIn p o hk,hc⟩,fun a e=>?_⟩;cases e;exact ⟨o,I.kIn _ o hk,hd⟩
  ·have z:∃ o,s.heap.get? p=some o/\o.ExactDict:=by
    rcases hk with ⟨kvs,hk⟩ | ⟨kvs,hk⟩ | ⟨ep,xs,hk⟩
    ·obtain ⟨_,_,_,_,o,_,_,e,ex,_⟩:=I.hok p _ hk;exact ⟨o,e,ex⟩
    ·obtain ⟨_,_,_,_,o,_,_,e,ex,_⟩:=I.hok p _ hk;exact ⟨o,e,ex⟩
    ·obtain ⟨_,_,_,o,_,e,ex,_⟩:=I.hok p _ hk;exact ⟨o,e,ex⟩
   obtain ⟨o,e,ex⟩:=z;refine ⟨⟨o,e,ex.1⟩,fun a e2=>?_⟩;cases e2;exact ⟨o,e,ex.2.1⟩
  ·obtain ⟨o,_,_,_,e,ex,_⟩:=I.hok p _ hk;refine ⟨⟨o,e,ex.1⟩,fun a e2=>?_⟩;cases e2;exact ⟨o,e,ex.2.1⟩
 | _=>exact False.elim ty
noncomputable def GA (K:Fg) (T:String) (r:V->List V->Hp->VK->Prop) (to:TE):TE:=fun σ H Q=>to σ H fun x H1=>tyV K T x H1/\r x [] H1 Q
noncomputable def tBM (K:Fg) (T:String) (r:V->List V->Hp->VK->Prop) (to:TE) (t:TA):TE:=fun σ H Q=>to σ H fun x H1=>tyV K T x H1/\t σ H1 fun xs H2=>r x xs H2 Q
variable {o e:Expr} {es:List Expr} {to:TE} {t:TA} {name:Str} {apos cpos:Pos} {T id:String} {r:V->List V->Hp->VK->Prop}
theorem B7 (pa:PlainAttrs T) (slot:Slot T name id) (hty:typeOf (.builtin id)=pure (.type "method_descriptor")) (hm:MtR X id r) (ho:PE X o to)
  (hbase:attributeBase o name X.env (eval o X.env)=eval o X.env:=by rfl) (hline:(apos.endLine==cpos.line)=true:=by rfl):PE X (.Call (.Attribute o name apos) [] [] cpos) (GA X.K T r to):=by
 intro pins s σ H Q I h;refine wpAny_Call_method0_late hbase hline (thn (ho pins s σ H _ I h) fun v s1 ⟨x,H1,I1,r1,ty,q1⟩=>?_);obtain ⟨h1,h2⟩:=vY I1 r1 ty;exact ⟨T,id,pa,slot,hty,h1,h2,Calls.callWith_builtin rfl (PySem.evalArgs_none (hm pins s1 σ H1 x [] v [] Q I1 r1 .nil q1))⟩
theorem DK (pa:PlainAttrs T) (slot:Slot T name id) (hty:typeOf (.builtin id)=pure (.type "method_descriptor")) (hm:MtR X id r) (ho:PE X o to) (ha:PA X (e :: es) t)
  (hbase:attributeBase o name X.env (eval o X.env)=eval o X.env:=by rfl)
  (hfew:((backTo cpos (starEach (e :: es) X.env)).all (fun x=>!x.1)&&(backToKw cpos (keywordEach [] X.env)).all (fun x=>x.1.isSome)
   && decide ((e :: es).length+([]:List Keyword).length+(if ([]:List Keyword).isEmpty then 0 else 1) < 30))=true:=by rfl)
  (hline:(apos.endLine==cpos.line)=true:=by rfl) (hs:starEach (e :: es) X.env=(false,eval e X.env) :: starEach es X.env:=by rfl) (hplain:(backTo cpos (starEach es X.env)).any (·.1)=false:=by rfl) :
  PE X (.Call (.Attribute o name apos) (e :: es) [] cpos) (tBM X.K T r to t):=by
 intro pins s σ H Q I h;refine wpAny_Call_method_late hbase hfew hline rfl (thn (ho pins s σ H _ I h) fun v s1 ⟨x,H1,I1,r1,ty,q1⟩=>?_);obtain ⟨h1,h2⟩:=vY I1 r1 ty;refine ⟨T,id,pa,slot,hty,h1,h2,?_⟩;have hA:=ha cpos pins s1 σ H1 _ I1 q1;rw [hs] at hA ⊢;refine Calls.callWith_builtin (by show (false||(backTo cpos (starEach es X.env)).any (·.1))=false;rw [hplain] <;> rfl) (Calls.evalArgs_plain ?_);exact thn hA fun us s2 ⟨vs,H2,I2,r2,q2⟩=>hm pins s2 σ H2 x vs v us Q I2 r1 r2 q2
end
end L2
namespace L2
open PySem PySem.Spec PyProof.Rows
noncomputable def MtM (X:Cx) (id:String) (r:V->List V->Hp->VK->Prop):Prop :=
 ∀ (pins:List (Addr×Obj)) (s:Shared) (σ:St) (H:Hp) (x:V) (xs:List V) (v:Value) (us:List Value) (Q:VK),Inv X pins σ H s->RelV x v->Vals xs us->r x xs H Q ->
  wpAny (model X.prog X.w) X.A (call (.builtin id) (v :: us)) (EP X pins σ Q) X.xe s
theorem Vals.one:∀ {x:V} {us:List Value},Vals [x] us->∃ u,us=[u]/\RelV x u
 | _,_,.cons r .nil=>⟨_,rfl,r⟩
theorem Vals.zero:∀ {us:List Value},Vals [] us->us=[]
 | _,.nil=>rfl
theorem Vals.dropLast {xs:List V} {us:List Value} (h:Vals xs us):Vals xs.dropLast us.dropLast:=by
 induction h with
 | nil=>exact .nil
 | cons r t ih =>
  cases t with
  | nil=>exact .nil
  | cons q t'=>exact .cons r ih
theorem nC {α:Type} (l:List α):l.eraseIdx (l.length - 1)=l.dropLast:=by
 induction l with
 | nil=>rfl
 | cons a r ih =>
  cases r with
  | nil=>rfl
  | cons b r =>
   have e:(a :: b :: r).length - 1=((b :: r).length - 1)+1:=by
    have h1:(a :: b :: r).length=r.length+2:=rfl;have h2:(b :: r).length=r.length+1:=rfl;omega
   rw [e,List.eraseIdx_cons_succ,ih]
   all_goals rfl
section
variable {X:Cx} {pins:List (Addr×Obj)} {σ:St} {H:Hp} {s:Shared} {l b:Addr} {xs ys zs:List V}
theorem Inv.C0 {its its':List Value} {n:Nat} {f:Array Value->Array Value} {t':Nat} (I:Inv X pins σ H s) (hH:H l=some (.lst xs))
  (e:s.heap.get? l=some { cls:=.type "list", data:=.seq its.toArray n }) (hf:f its.toArray=its'.toArray) (hv:Vals ys its') (hz:ys.length<=sizeLine) :
  Inv X pins σ (upd H l (.lst ys)) { s with heap:=s.heap.update l (Obj.mapSeq f),toks:=t' }:=by
 have q:=PySem.IsL.update e f;rw [hf] at q;refine I.write (x:=l) (e:=l) (by rw [hH];exact trivial) (.inl rfl) (fun b' u hb hu=>(J1 s.heap (Obj.mapSeq f) (Ne.symm hb)).trans hu) ⟨_,q⟩ ?_;exact ⟨hz,its',_,hv,q⟩
theorem Inv.Ie {its:List Value} {t':Nat} (I:Inv X pins σ H s) (hv:Vals ys its) (hz:ys.length<=sizeLine) :
  Inv X pins σ (upd H s.heap.objs.size (.lst ys)) { s with heap:=s.heap.push { cls:=.type "list", data:=.seq its.toArray },toks:=t' } :=
 I.laid (fun _ _ q=>IQ _ q) (IY _) ⟨hz,its,0,hv,Jk _ rfl⟩
theorem Inv.fresh (I:Inv X pins σ H s):H s.heap.objs.size=none:=I.hok.fresh (IY _)
theorem Inv.C7 (I:Inv X pins σ H s) (hH:H l=some (.lst xs)):xs.length<=sizeLine/\∃ (its:List Value) (n:Nat),Vals xs its/\xs.length=its.length/\s.heap.get? l=some { cls:=.type "list", data:=.seq its.toArray n }:=by
 obtain ⟨z,its,n,r,e⟩:=I.hok l _ hH;exact ⟨z,its,n,r,r.length,e⟩
end
section
variable {X:Cx}
noncomputable def rq:V->List V->Hp->VK->Prop:=fun x vs H Q=>∃ l xs y,x=.ref l/\vs=[y]/\H l=some (.lst xs)/\xs.length < sizeLine/\Q .non (upd H l (.lst (xs++[y])))
theorem dM:MtM X "list.append" rq:=by
 intro pins s σ H x vs v us Q I rx rv h;obtain ⟨l,xs,y,rfl,rfl,hH,hz,q⟩:=h;cases rx;obtain ⟨u,rfl,ru⟩:=rv.one;obtain ⟨z,its,n,r,hl,e⟩:=I.C7 hH;refine call_meets F.slot_list_append ⟨_,e,rfl⟩ F.entry_list_append (F.args_list_append_2 _ _) (PySem.list_append l its.toArray n u (by rw [IW];omega)) ⟨e,?_⟩;refine ⟨.non,_,I.C0 (its':=its++[u]) hH e (by simp) (r.append (.cons ru .nil)) ?_,rfl,q⟩;rw [IH,KP];omega
noncomputable def Hn:V->List V->Hp->VK->Prop:=fun x vs H Q=>∃ l xs y,x=.ref l/\vs=[]/\H l=some (.lst xs)/\xs[xs.length - 1]?=some y/\Q y (upd H l (.lst xs.dropLast))
theorem GB:MtM X "list.pop" Hn:=by
 intro pins s σ H x vs v us Q I rx rv h;obtain ⟨l,xs,y,rfl,rfl,hH,hy,q⟩:=h;cases rx;have hus:=rv.zero;subst hus;obtain ⟨z,its,n,r,hl,e⟩:=I.C7 hH;obtain ⟨u,hu,ru⟩:=r.get hy;have hy':its.toArray[its.toArray.size - 1]?=some u:=by
  show its.toArray[its.length - 1]?=some u;rw [<- Kb,<-hl];exact hu
 refine call_meets F.slot_list_pop ⟨_,e,rfl⟩ F.entry_list_pop (F.args_list_pop_1 _) (MeetsSeq.list_pop_last l its.toArray n u hy' (by rw [IW];omega)) ⟨e,?_⟩;refine ⟨y,_,I.C0 (its':=its.dropLast) hH e ?_ r.dropLast ?_,ru,q⟩
 ·show its.toArray.eraseIdxIfInBounds (its.toArray.size - 1)=its.dropLast.toArray;rw [IW,List.eraseIdxIfInBounds_toArray,nC]
 ·rw [List.length_dropLast];omega
noncomputable def wo:V->List V->Hp->VK->Prop:=fun x vs H Q=>∃ l xs,x=.ref l/\vs=[]/\H l=some (.lst xs)/\Q .non (upd H l (.lst []))
theorem uP:MtM X "list.clear" wo:=by
 intro pins s σ H x vs v us Q I rx rv h;obtain ⟨l,xs,rfl,rfl,hH,q⟩:=h;cases rx;have hus:=rv.zero;subst hus;obtain ⟨z,its,n,r,hl,e⟩:=I.C7 hH;refine call_meets F.slot_list_clear ⟨_,e,rfl⟩ F.entry_list_clear (F.args_list_clear_1 _) (AutoSeq1.list_clear_list_0 l its.toArray n (by rw [IW];omega)) ⟨e,?_⟩;exact ⟨.non,_,I.C0 (its':=[]) (ys:=[]) hH e rfl .nil (JZ _),rfl,q⟩
end
section
variable {prog:Program} {w:World} {A:Around} {E:Value->Shared->Prop} {s:Shared}
set_option maxRecDepth 100000 in
end
section
variable {X:Cx}
end
end L2
namespace L2
open PySem PySem.Spec PyProof.Rows
section
variable {κ:Type} [DecidableEq κ]
noncomputable def putK (kvs:List (κ×V)) (k:κ) (v:V):List (κ×V) :=
 if (kvs.any fun kv=>decide (kv.1=k))=true then kvs.map (fun kv=>if kv.1=k then (kv.1,v) else kv) else kvs++[(k,v)]
theorem kJ (kvs:List (κ×V)) (k:κ) (v:V):(putK kvs k v).length<=kvs.length+1:=by
 unfold putK;split
 ·rw [II];omega
 ·rw [IH,Jf,Kp];omega
theorem KV.any {kvs:List (κ×V)} {vs:List (κ×Value)} (r:KV kvs vs) (k:κ):(kvs.any fun kv=>decide (kv.1=k))=vs.any fun kv=>decide (kv.1=k):=by
 unfold KV at r;induction r with
 | nil=>rfl
 | cons h t ih=>rw [Lm,Lm,ih,h.1]
theorem KV.Hv {kvs:List (κ×V)} {vs:List (κ×Value)} (r:KV kvs vs) (k:κ) {y:V} {u:Value} (ry:RelV y u) :
  KV (kvs.map fun kv=>if kv.1=k then (kv.1,y) else kv) (vs.map fun kv=>if kv.1=k then (kv.1,u) else kv):=by
 unfold KV at r ⊢;induction r with
 | nil=>exact .nil
 | @cons p q ps qs h t ih =>
  rw [List.map_cons,List.map_cons];refine .cons ?_ ih;obtain ⟨h1,h2⟩:=h;by_cases e:p.1=k
  ·rw [IV e,IV (h1.symm.trans e)];exact ⟨h1,ry⟩
  ·rw [IU e,IU (fun z=>e (h1.trans z))];exact ⟨h1,h2⟩
theorem KV.put {kvs:List (κ×V)} {vs:List (κ×Value)} (r:KV kvs vs) (k:κ) {y:V} {u:Value} (ry:RelV y u):KV (putK kvs k y) (stored vs k u):=by
 unfold putK stored;rw [r.any k];by_cases e:(vs.any fun kv=>decide (kv.1=k))=true
 ·rw [IV e,IV e];exact r.Hv k ry
 ·rw [IU e,IU e];exact Paired.snoc r ⟨rfl,ry⟩
end
theorem DB {P:Program} {w:World} {k:Key} {u:Value} (r:RelV (kV k) u):(aM P w).is k u=true:=by
 cases k with
 | inl i=>obtain ⟨t,e⟩:=(show ∃ t,u=Value.int i t from r);subst e;exact lp P w i t
 | inr x=>obtain ⟨t,e⟩:=(show ∃ t,u=Value.str x t from r);subst e;exact lr P w x t
section
variable {P:Program} {w:World} {H:Hp} {h:Heap} {a:Addr}
end
section
variable {X:Cx} {pins:List (Addr×Obj)} {σ:St} {H:Hp} {s:Shared} {a:Addr} {y v:V} {u r:Value} {o:Option V} {A:Around} {E:Value->Shared->Prop}
theorem Inv.big (I:Inv X pins σ H s):sysModules < s.heap.objs.size:=by
 have h:mainGlobals < s.heap.objs.size:=(I.mod.glob.keeps I.bk).lt;exact Nat.lt_trans (by decide) h
theorem lO {h':Heap} {t':Nat} {ob:HO} (I:Inv X pins σ H s) (mu:Mut (H a)) (hs:Heap.SameBut a s.heap h') (he:∃ q,h'.get? a=some q) (new:aW X.prog X.w (upd H a ob) h' a ob) :
  Inv X pins σ (upd H a ob) { s with heap:=h',toks:=t' } :=
 I.write (x:=a) (e:=a) mu (.inl rfl) (fun b q hb z=>(hs.2 b hb).trans z) he new
end
section
variable {X:Cx} {pins:List (Addr×Obj)} {σ:St} {H:Hp} {s:Shared} {a:Addr} {kvs:List (Key×V)} {k:Key} {u:Value} {A:Around} {E:Value->Shared->Prop}
end
noncomputable def He (i:Expr):Prop:=∀ ov iv,subscripted i false ov iv=operate [ov,iv] (getItem ov iv)
theorem xa {prog:Program} {w:World} {A:Around} {E:Value->Shared->Prop} {s:Shared} {env:Env} {value slice:Expr} {pos:Pos} {T id:String} {Q:Value->Shared->Prop}
  (hl:typeLookup (.type T) "__getitem__" = pure (some (.builtin id))) (hs:He slice)
  (h:wpAny (model prog w) A (eval value env) (fun o s₁=>wpAny (model prog w) A (eval slice env) (fun i s₂=>s₂.TypeIs o T/\wpAny (model prog w) A (getItem o i) Q E s₂) E s₁) E s) :
  wpAny (model prog w) A (eval (.Subscript value slice pos) env) Q E s:=by
 refine Subscript_ (JV h (fun o s₁ h₁=>JV h₁ (fun i s₂ h₂=>?_) fun _ _ x=>x) fun _ _ x=>x);obtain ⟨hT,h₂⟩:=h₂;unfold subscriptTail;refine IF ?_;rw [getitemInPython_of_ne hT.not_modules];refine IF (LW hT hl ?_);have fin:wpAny (model prog w) A (subscripted slice false o i) (fun r s₃=>wpAny (model prog w) A (letTemporaryGo value o r>>=fun _=>pure r) Q E s₃) E s₂:=by
  rw [hs o i];exact wpAny_operating (JV h₂ (fun r s₃ h₃=>IF (wpAny_letTemporaryGo (IJ h₃))) fun _ _ x=>x)
 first
  | exact IJ (IF fin)
  | exact IF (IJ (IF fin))
  | exact IF fin
section
variable {X:Cx} {o i e value:Expr} {pos pos' tpos:Pos} {td ty tv:TE}
end
section
variable {X:Cx} {pos:Pos}
end
noncomputable def mZ:List (TE×TE)->St->Hp->(List (V×V)->Hp->Prop)->Prop
 | [],_,H,Q=>Q [] H
 | (tk,tv) :: r,σ,H,Q=>tk σ H fun x H1=>tv σ H1 fun y H2=>mZ r σ H2 fun ps H3=>Q ((x,y) :: ps) H3
noncomputable abbrev VV:List (V×V)->List (Value×Value)->Prop:=Paired fun p q=>RelV p.1 q.1/\RelV p.2 q.2
noncomputable def PPs (X:Cx) (pos:Pos) (keys:List (Option Expr)) (values:List Expr) (trs:List (TE×TE)):Prop :=
 ∀ (pins:List (Addr×Obj)) (s:Shared) (σ:St) (H:Hp) (Q:List (V×V)->Hp->Prop),Inv X pins σ H s->mZ trs σ H Q ->
  wpAny (model X.prog X.w) X.A (evalPairs (pairTrees keys values X.env pos)) (fun vs s'=>∃ ps H',Inv X pins σ H' s'/\VV ps vs/\Q ps H') X.xe s
theorem x5 {X:Cx} {pos:Pos}:PPs X pos [] [] []:=fun pins s σ H Q I h=>pairTrees_nil_walk ⟨[],H,I,.nil,h⟩
theorem u0 {X:Cx} {pos:Pos} {k v:Expr} {ks:List (Option Expr)} {vs:List Expr} {tk tv:TE} {trs:List (TE×TE)} (hk:PE X k tk) (hv:PE X v tv) (hr:PPs X pos ks vs trs) :
  PPs X pos (some k :: ks) (v :: vs) ((tk,tv) :: trs):=fun pins s σ H Q I h =>
 pairTrees_cons_walk (thn (hk pins s σ H _ I h) fun u s1 ⟨x,H1,I1,rx,q1⟩=>thn (hv pins s1 σ H1 _ I1 q1) fun w2 s2 ⟨y,H2,I2,ry,q2⟩ =>
  thn (hr pins s2 σ H2 _ I2 q2) fun ws s3 ⟨ps,H3,I3,rel,q3⟩=>⟨(x,y) :: ps,H3,I3,.cons ⟨rx,ry⟩ rel,q3⟩)
noncomputable def cA (kvs more:List (Key×V)):List (Key×V):=more.foldl (fun acc kv=>putK acc kv.1 kv.2) kvs
theorem KV.merge:∀ {more:List (Key×V)} {rs:List (Key×Value)} {kvs:List (Key×V)} {vs:List (Key×Value)},KV more rs->KV kvs vs->KV (cA kvs more) (merged vs rs):=by
 intro more rs kvs vs r;unfold KV at r;induction r generalizing kvs vs with
 | nil=>intro q;exact q
 | @cons p q ps qs h t ih =>
  intro r0;have e:KV (putK kvs p.1 p.2) (stored vs q.1 q.2):=by
   have:=r0.put p.1 h.2;rw [<- h.1];exact this
  exact ih e
theorem dC:∀ (more kvs:List (Key×V)),(cA kvs more).length<=kvs.length+more.length
 | [],kvs=>by show kvs.length<=kvs.length+0;omega
 | p :: r,kvs=>by
  have h1:=dC r (putK kvs p.1 p.2);have h2:=kJ kvs p.1 p.2;show (cA (putK kvs p.1 p.2) r).length<=_;rw [Jf];omega
theorem iF {P:Program} {w:World}:∀ {kvs:List (Key×V)} {ws:List (Value×Value)},VV (kvs.map fun kv=>(kV kv.1,kv.2)) ws->∃ rs,Carries (aM P w) ws rs/\KV kvs rs
 | [],_,r=>by rw [List.map_nil] at r;cases r;exact ⟨[],True.intro,.nil⟩
 | p :: kvs,_,r=>by
  rw [List.map_cons] at r;cases r with
  | @cons a b as bs h t =>
   obtain ⟨rs,c,q⟩:=iF (P:=P) (w:=w) t;obtain ⟨b1,b2⟩:=b;exact ⟨(p.1,b2) :: rs,⟨DB h.1,rfl,c⟩,.cons ⟨rfl,h.2⟩ q⟩
section
variable {X:Cx} {pins:List (Addr×Obj)} {σ:St} {H:Hp} {s:Shared} {a:Addr} {y d:V} {u r:Value} {o:Option V} {A:Around} {E:Value->Shared->Prop}
end
section
variable {X:Cx} {o e f:Expr} {apos cpos:Pos} {td ty tx:TE}
end
section
variable {X:Cx} {pins:List (Addr×Obj)} {σ:St} {H:Hp} {s:Shared} {a:Addr} {kvs:List (Key×V)} {A:Around} {E:Value->Shared->Prop}
end
section
variable {X:Cx} {pins:List (Addr×Obj)} {σ:St} {H:Hp} {s:Shared} {a:Addr} {y:V} {u:Value} {A:Around} {E:Value->Shared->Prop}
end
end L2
namespace Att
open PySem PySem.W PySem.Calls PyProof.Rows
theorem gz {P:Params} {h:Heap}:∀ (ns:List Int) (vs:List Value),WellAll P h vs (ns.map WData.int)->IntsAre vs ns:=by
 intro ns;induction ns with
 | nil =>
  intro vs w;rw [List.map_nil] at w;cases w;exact .nil
 | cons n ns ih =>
  intro vs w;rw [List.map_cons] at w;cases w with
  | cons a b =>
   cases a;exact .cons _ _ (ih _ b)
theorem oY {l:OpenLaw} {n:Nat} (hn:l.most=some n) {P:Params} {h:Heap} {args:List WData} {vals:List Value}
  (hpre:l.row.toRowW.claim.pre args=true) (hwl:WellAll P h vals args) :
  ∃ a vs ns,vals=[Value.ref a]/\args=[WData.list (ns.map WData.int)]/\h.get? a=some { cls:=.type "list", data:=.seq vs.toArray }/\IntsAre vs ns/\ns.length<=n:=by
 have hsh:WShape.hasAll [] args [.list .int]=true:=(pre_splitW hpre).1;have hc:l.pre.holds [] { args:=args }=true:=(pre_splitW hpre).2;obtain ⟨d,r,rfl,h1,h2⟩:=hasAllW_cons hsh;obtain rfl:=hasAllW_nil h2;obtain ⟨xs,rfl,h3⟩:=hasW_list h1;obtain ⟨ns,rfl⟩:=items_int h3;have hlen:ns.length<=n:=by
  unfold OpenLaw.pre at hc;have h4:(WTm.not (.lt (.lit (.int (n:Int))) (.len (.arg 0)))).holds [] { args:=[.list (ns.map .int)] }=true:=by
   have h4:=(holds_andW hc).1;rw [hn] at h4;exact h4
  have h5:=condW_of h4 (w_not (w_lt w_lit (w_len_list (w_arg rfl))));rw [II] at h5;refine Nat.le_of_not_lt fun q=>?_;have q':(n:Int) < ((ns.length:Nat):Int):=by omega
  first
   | (rw [Jq q'] at h5;exact absurd h5 (by decide))
   | (simp at h5;omega)
 cases hwl with
 | cons w1 w2 =>
  cases w2;cases w1 with
  | list ho hall=>exact ⟨_,_,ns,rfl,rfl,ho,gz ns _ hall,hlen⟩
theorem o5 (l:OpenLaw) (args:List WData):l.row.toRowW.claim.post args (.bool true) args=true :=
 postW_of (r:=l.row.toRowW) (X:=(true==true))
  (show WShape.has [] (.bool true) .bool=true by first | rfl | decide | simp [WShape.has,WShape.arms,WShape.armsAll])
  (show (WTm.eq .res (.lit (.bool true))).value [] { args:=args,res:=some (.bool true),after:=args }=some (.bool (true==true)) from w_eq_bool (w_res rfl) w_lit) rfl
theorem kQ {l:OpenLaw} {n:Nat} {q:Program} {loose:List Str} {XP:(Str->Option Value)->Heap->Prop} {YP:World->Heap->Prop} {d:DefRec}
  (hn:l.most=some n) (hdf:d.params.defaults=[])
  (call:∀ (w:World) (s₀ s₁:Shared) (mg mb:Str->Option Value) (fa:Addr) (o:Obj) (pm cd doc:Value) (a:Addr) (vs:List Value) (ns:List Int),
   Ground q loose [] XP w s₀ mg mb s₁.heap->YP w s₁.heap ->
   s₁.heap.get? fa=some o->o.data=.func (docDef d.name d.params d.body d.scope pm cd doc)->s₁.heap.CodeRec cd d.name->mg d.name=some (.ref fa) ->
   s₁.heap.get? a=some { cls:=.type "list", data:=.seq vs.toArray }->IntsAre vs ns->ns.length<=n->s₁.gens=#[] ->
   codeAny (model l.prog w) callerA (.call (.ref fa) ⟨[.ref a],[]⟩) (fun r s'=>r=.ok (.ret (.bool true))/\OldK s₁.heap s'.heap/\s'.os=s₁.os/\AllBare s'.gens) s₁) :
  WalkO q loose XP YP l.row.toRowW d [] (fun f vs=>PySem.call f vs):=by
 intro w s₀ s₁ mg mb G Y fa o pm cd doc dV kV ho hd hcd hD hmg hg args vals as hpre hlay hrd hwl hlo;obtain rfl:dV=.none:=Dflts.none hD hdf;obtain rfl:kV=.none:=Dflts.noKw hD;obtain ⟨a,vs,ns,rfl,rfl,hobj,hints,hlen⟩:=oY hn hpre hwl;refine enter_call (codeAny_mono (call w s₀ s₁ mg mb fa o pm cd doc a vs ns G Y ho (fd_plain hd) hcd hmg hobj hints hlen hg) fun r s' hq=>?_);obtain ⟨rfl,h2,h3,h4⟩:=hq;exact ⟨.inl ⟨.bool true,.bool true,[],rfl,fun _=>rfl,.bool true,o5 l _,fun _=>⟨List.Pairwise.nil,fun _ hm=>(nomatch hm)⟩⟩,h2,h3,h4⟩
section
variable {prog:Program} {w:World} {A:Around} {E:Value->Shared->Prop} {s:Shared} {K:Frag}
end
end Att
namespace L2
open PySem PySem.Spec PyProof.Rows
theorem jW:∀ {vs:List Value} {ns:List Int},IntsAre vs ns->Vals (ns.map V.int) vs
 | _,_,.nil=>.nil
 | _,_,.cons n t h=>.cons ⟨t,rfl⟩ (jW h)
noncomputable def CW (H:Hp):Prop:=∀ b,H b=none\/∃ o xs,H b=some (.frz o (.lst xs))
theorem ui {P:Program} {w:World} {K:Fg} {mg mb:Str->Option Value} {CX:CXT} {k:Nat} {fa a:Addr} {fd:FuncData} {x:Str} {sp:Sp} {s₁:Shared} {vs:List Value} {ns:List Int}
  (KX:K.In s₁.heap) (hns:s₁.heap.Ns mainGlobals mg) (hb:s₁.heap.Ns builtinsNs mb) (hbb:∀ x:Str,x ≠ "__name__" -> mb x=bootBuiltins x) (hlim:s₁.heap.NoLimit) (hg:s₁.gens=#[])
  (ha:s₁.heap.get? a=some { cls:=.type "list", data:=.seq vs.toArray }) (hi:IntsAre vs ns) (hl:ns.length<=sizeLine) (hr:cQ k callerA)
  (F:∀ base:Heap,K.In base->base.Ns mainGlobals mg->ba P w K mg base CX k fa fd [x] sp) (hbind:∀ (s:Shared) (u:Value),BindsTo s fd ⟨[u],[]⟩ [(x,u)])
  (hsp:∀ H:Hp,CW H->SqL K H a (ns.map V.int)->sp [.ref a] H (fun v _=>v=.bl true) fun _ _ _=>False)
  (hCX:∀ H e s',CX [] H s₁ (fun _ _ _=>False) e s'->False) :
  codeAny (model P w) callerA (.call (.ref fa) ⟨[.ref a],[]⟩) (fun r s'=>r=.ok (.ret (.bool true))/\OldK s₁.heap s'.heap/\s'.os=s₁.os/\AllBare s'.gens) s₁:=by
 have rv:=jW hi;have lenV:=hi.length;have core:∀ H:Hp,CW H->SqL K H a (ns.map V.int)->HOk P w H s₁.heap->(∀ b,H b≠none->b=a)->(H a≠none->K.lookup a=none) ->
   codeAny (model P w) callerA (.call (.ref fa) ⟨[.ref a],[]⟩) (fun r s'=>r=.ok (.ret (.bool true))/\OldK s₁.heap s'.heap/\s'.os=s₁.os/\AllBare s'.gens) s₁:=by
  intro H hO hS hok hA hK;have base_of:∀ {b:Addr} {o:Obj},s₁.heap.get? b=some o->H b=none->(uz s₁.heap H).get? b=some o:=fun e n=>uF e n;have noA:∀ {b:Addr} {o:Obj} {es:Array DictEntry} {ep:Nat},s₁.heap.get? b=some o->o.data=.dict es ep->H b=none:=fun {b o es ep} e d=>by
   cases q:H b with
   | none=>rfl
   | some u =>
    have e':b=a:=hA b (by rw [q];simp);subst e';rw [ha] at e;cases e;have d':Data.seq vs.toArray _=Data.dict es ep:=d;cases d'
  have nsK:∀ {b:Addr} {m:Str->Option Value},s₁.heap.Ns b m->(uz s₁.heap H).Ns b m:=fun {b m} ⟨o,es,ep,e,d,r⟩=>⟨o,es,ep,base_of e (noA e d),d,r⟩
  have hKb:K.In (uz s₁.heap H):=fun b o e=>base_of (KX b o e) (by
   cases q:H b with
   | none=>rfl
   | some u =>
    have e':b=a:=hA b (by rw [q];simp);subst e'
    rw [hK (by rw [q];simp)] at e;cases e)
  have hM:Mod K mg (uz s₁.heap H):=⟨hKb,nsK hns,⟨mb,nsK hb,hbb⟩,let ⟨mc,h1,h2⟩:=hlim;⟨mc,nsK h1,h2⟩⟩;have e0:CF P w K mg (uz s₁.heap H) callerA [] s₁ H:=⟨rfl,hM,fun b o e=>yu e,Nat.le_of_eq (qL _ _),trivial,fun b hb=>absurd (show b∈([]:List Addr) from hb) (by simp),hok,.of_eq hg⟩;refine codeAny_mono ((F _ hKb (nsK hns)).run callerA [] s₁ H ⟨[.ref a],[]⟩ [.ref a] [.ref a] _ _ hr e0 (hbind s₁ (.ref a)) (.cons rfl .nil) (hsp H hO hS)) fun r s' h=>?_;cases r with
  | error e=>exact (hCX H e s' h).elim
  | ok fl =>
   cases fl with
   | next=>exact False.elim h
   | brk=>exact False.elim h
   | cont=>exact False.elim h
   | ret u =>
    obtain ⟨v,H',os,bare,un,hok',r',q⟩:=h;have q':v=.bl true:=q;subst q';obtain rfl:u=Value.bool true:=r';refine ⟨rfl,OldK.of_keep fun b o e=>?_,os,bare⟩;cases q:H b with
    | none=>exact un.keep b o e q (by intro z;exact absurd (show b∈([]:List Addr) from z) (by simp)) (by simp)
    | some u =>
     rcases hO b with z | ⟨ob,xs,z⟩
     ·rw [q] at z;cases z
     ·have z2:=un.oG b ob _ z;obtain ⟨e1,_⟩:=hok b _ z;obtain ⟨e2,_⟩:=hok' b _ z2;rw [e] at e1;cases e1;exact e2
 cases hk:K.lookup a with
 | some o =>
  have e:=KX a o hk;rw [ha] at e;cases e;refine core (fun _=>none) (fun _=>.inl rfl) (.inr ⟨_,vs.toArray,_,hk,rfl,rfl,rfl,by rw [IW,lenV];exact hl,by simpa using rv⟩) (fun b u z=>by have z':(none:Option HO)=some u:=z;cases z') (fun b z=>absurd rfl z) fun z=>absurd rfl z
 | none =>
  refine core (fun b=>if b=a then some (.frz { cls:=.type "list", data:=.seq vs.toArray } (.lst (ns.map V.int))) else none) (fun b=>?_) (.inl (.inr ⟨{ cls:=.type "list", data:=.seq vs.toArray },IV rfl⟩)) (fun b u z=>?_) (fun b z=>?_) fun _=>hk
  ·by_cases hb:b=a
   ·exact .inr ⟨_,_,IV hb⟩
   ·exact .inl (IU hb)
  ·by_cases hb:b=a
   ·have z':=(IV hb).symm.trans z;cases z';subst hb;exact ⟨ha,by rw [II];exact hl,vs,_,rv,ha⟩
   ·have z':=(IU hb).symm.trans z;cases z'
  ·by_cases hb:b=a
   ·exact hb
   ·exact absurd (IU hb) z
end L2
namespace L2
open PySem PySem.Spec PyProof.Rows
noncomputable abbrev KOf {K:Fg} {h:Heap} (_:K.In h):Fg:=K
theorem xV {l:PySem.W.OpenLaw} {n k:Nat} {q:Program} {loose:List Str} {XP:(Str->Option Value)->Heap->Prop} {YP:World->Heap->Prop} {d:DefRec} {K:Params->Fg} {CX:World->CXT} {sp:World->Sp} {x:Str}
  (hn:l.most=some n) (hn2:n<=sizeLine) (hdf:d.params.defaults=[]) (hr:cQ k callerA)
  (hY:∀ (w:World) (h:Heap),YP w h->(K w.params).In h)
  (F:∀ (w:World) (mg:Str->Option Value) (fa:Addr) (h:Heap),(K w.params).In h->h.Ns mainGlobals mg->mg d.name=some (.ref fa) ->
   ∃ fd:FuncData,(∀ (s:Shared) (u:Value),BindsTo s fd ⟨[u],[]⟩ [(x,u)]) /\
    ∀ base:Heap,(K w.params).In base->base.Ns mainGlobals mg->ba l.prog w (K w.params) mg base (CX w) k fa fd [x] (sp w))
  (hsp:∀ (w:World) (H:Hp) (a:Addr) (ns:List Int),ns.length<=n->CW H->SqL (K w.params) H a (ns.map V.int)->sp w [.ref a] H (fun v _=>v=.bl true) fun _ _ _=>False)
  (hCX:∀ (w:World) (H:Hp) (s:Shared) (e:Value) (s':Shared),CX w [] H s (fun _ _ _=>False) e s'->False) :
  PySem.W.WalkO q loose XP YP l.row.toRowW d [] (fun f vs=>PySem.call f vs):=by
 refine Att.kQ hn hdf fun w s₀ s₁ mg mb fa o pm cd doc a vs ns G Y ho hd hcd hmg hobj hints hlen hg=>?_;have KX:=hY w _ Y;obtain ⟨fd,hb,hF⟩:=F w mg fa _ KX G.T.g hmg;exact ui KX G.T.g G.T.b G.T.builtins G.T.nolimit hg hobj hints (Jt hlen hn2) hr hF hb (fun H hO hS=>hsp w H a ns hlen hO hS) fun H e s'=>hCX w H s₁ e s'
theorem tE {l:PySem.W.OpenLaw} {n k:Nat} {q:Program} {loose:List Str} {XP:(Str->Option Value)->Heap->Prop} {YP:World->Heap->Prop} {d:DefRec} {K:Params->Fg} {CX:CXT} {sp:Fg->Sp} {x:Str}
  (hn:l.most=some n) (hn2:n<=sizeLine) (hdf:d.params.defaults=[]) (hr:cQ k callerA)
  (hY:∀ (w:World) (h:Heap),YP w h->(K w.params).In h)
  (F:∀ (w:World) (mg:Str->Option Value) (fa:Addr) (h:Heap),(K w.params).In h->h.Ns mainGlobals mg->mg d.name=some (.ref fa) ->
   ∃ fd:FuncData,(∀ (s:Shared) (u:Value),BindsTo s fd ⟨[u],[]⟩ [(x,u)]) /\
    ∀ base:Heap,(K w.params).In base->base.Ns mainGlobals mg->ba l.prog w (K w.params) mg base CX k fa fd [x] (sp (K w.params)))
  (hsp:∀ (K:Fg) (H:Hp) (a:Addr) (ns:List Int),ns.length<=n->CW H->SqL K H a (ns.map V.int)->sp K [.ref a] H (fun v _=>v=.bl true) fun _ _ _=>False)
  (hCX:∀ (H:Hp) (s:Shared) (e:Value) (s':Shared),CX [] H s (fun _ _ _=>False) e s'->False) :
  PySem.W.WalkO q loose XP YP l.row.toRowW d [] (fun f vs=>PySem.call f vs) :=
 xV (K:=K) (CX:=fun _=>CX) (sp:=fun w=>sp (K w.params)) hn hn2 hdf hr hY F (fun w H a ns h1 h2 h3=>hsp (K w.params) H a ns h1 h2 h3) fun _ H s e s'=>hCX H s e s'
end L2
namespace L2
open PySem PySem.Spec PyProof.Rows
noncomputable def gG (s:Stmt):Arguments:=match s with
 | .FunctionDef _ a _ _ _ _ _ _ _ _=>a
 | _=>{ posonlyargs:=[],args:=[],vararg:=none,kwonlyargs:=[],kw_defaults:=[],kwarg:=none,defaults:=[] }
noncomputable def bQ (s:Stmt):List Stmt:=match s with
 | .FunctionDef _ _ b _ _ _ _ _ _ _=>b
 | _=>[]
noncomputable def aa (s:Stmt):Scope:=match s with
 | .FunctionDef _ _ _ _ _ _ sc _ _ _=>sc
 | _=>{ kind:=.function,names:=[],isGenerator:=false,isCoroutine:=false }
noncomputable abbrev CX0:CXT:=fun _ _ _ _ _ _=>False
noncomputable abbrev E0:XK:=fun _ _ _=>False
theorem yL {X:Cx}:Passes CX0 X E0:=fun _ _ _ _ _ _ _ h=>h.elim
structure Fun (K:Fg) (x qual:Str) (st:Stmt) (f:Addr) (fd:FuncData):Prop where
 ex:∃ (oc:Value) (od:Option Addr) (kV doc pm:Value) (an:Option Addr) (cdv ct:Value) (osl:Array (Option Value)),
  fd=PySem.W.fnOf x qual (gG st) (bQ st) (aa st) .none kV doc pm an cdv ct/\K.lookup f=some ⟨oc,od,.func fd,osl⟩/\PySem.W.codeIn K cdv qual=true
 kp:PySem.W.keepIn K (.ref f)=true
section
variable {P:Program} {w:World} {K:Fg} {mg:Str->Option Value} {base:Heap}
theorem Fun.ok {x qual:Str} {st:Stmt} {f:Addr} {fd:FuncData} {N ps:List Str} {k:Nat} {sp:Sp} (F:Fun K x qual st f fd) (S:af N ps (aa st)) (len:∀ vs H Q E,sp vs H Q E->vs.length=ps.length)
  (hbody:∀ (cdv:Value) (A:Around) (outer:List Env) (s:Shared) (H:Hp) (vs:List V) (Q:VK) (E:XK),cQ k (A.deeper (envOfC qual (aa st) s.heap.objs.size f cdv))->sp vs H Q E ->
   ∃ t,PSs (vm CX0 P w K mg base N qual (aa st) f cdv A outer s H E).nox (bQ st) t/\t { nx:=fun _ H'=>Q .non H',rt:=Q } (start N vs) H):ba P w K mg base CX0 (k+1) f fd ps sp:=by
 obtain ⟨oc,od,kV,doc,pm,an,cdv,ct,osl,rfl,lk,hcd⟩:=F.ex;refine Eh lk hcd S len fun A outer s H vs Q E hr hsp=>?_;obtain ⟨t,h,q⟩:=hbody cdv A outer s H vs Q E hr hsp;exact ⟨t,h.nox,q⟩
theorem zv {x qual:Str} {st:Stmt} {f:Addr} {oc:Value} {od an:Option Addr} {osl:Array (Option Value)} {kV doc pm cdv ct:Value} (l:K.lookup f=some ⟨oc,od,.func (PySem.W.fnOf x qual (gG st) (bQ st) (aa st) .none kV doc pm an cdv ct),osl⟩)
  (c:PySem.W.codeIn K cdv qual=true) (k:PySem.W.keepIn K (.ref f)=true):Fun K x qual st f (PySem.W.fnOf x qual (gG st) (bQ st) (aa st) .none kV doc pm an cdv ct):=⟨⟨oc,od,kV,doc,pm,an,cdv,ct,osl,rfl,l,c⟩,k⟩
end
section
variable {X:Cx}
end
noncomputable def aw (H H':Hp):Prop:=∀ b o,H b=some o->H' b=some o
theorem aw.refl (H:Hp):aw H H:=fun _ _ h=>h
theorem aw.trans {H H1 H2:Hp} (a:aw H H1) (b:aw H1 H2):aw H H2:=fun c o h=>b c o (a c o h)
theorem aw.free {H H':Hp} (e:aw H H') {l:Addr} (h:H' l=Option.none):H l=Option.none:=by
 cases q:H l with
 | none=>rfl
 | some o =>
  rw [e l o q] at h;cases h
end L2
namespace L2
open PySem PySem.Spec PyProof.Rows
section
variable {X:Cx}
end
section
variable {κ:Type} [DecidableEq κ]
end
end L2
end
section
namespace L2
open PySem PySem.Spec PyProof.Rows
noncomputable def kF (env:Env):List (Str×NameKind)->List (Str×Addr)->List (Str×Addr)
 | [],cs=>cs
 | (n,k) :: r,cs=>kF env r (if k==.free then (n,(env.cells.lookup n).getD 0) :: cs else cs)
theorem cw {env:Env}:∀ (ns:List (Str×NameKind)) (cs:List (Str×Addr)),(∀ y∈ns,y.2=.free->∃ c,env.cells.lookup y.1=some c) ->
  (forIn ns cs (fun (x:Str×NameKind) (r:List (Str×Addr))=>if (x.2==NameKind.free)=true then (cellOf env x.1>>=fun a=>pure (ForInStep.yield ((x.1,a) :: r)):Sem _) else pure (ForInStep.yield r)):Sem (List (Str×Addr)))=pure (kF env ns cs)
 | [],_,_=>rfl
 | (n,k) :: r,cs,h=>by
  rw [List.forIn_cons];by_cases hk:k=.free
  ·subst hk;obtain ⟨c,e⟩:=h (n,.free) IP rfl;have e':env.cells.lookup n=some c:=e;have q:=cw (env:=env) r ((n,c) :: cs) fun y hy=>h y (IZ _ hy);have z:kF env ((n,NameKind.free) :: r) cs=kF env r ((n,c) :: cs):=by
    show kF env r (if (NameKind.free==NameKind.free)=true then (n,(env.cells.lookup n).getD 0) :: cs else cs)=_;rw [IV (by decide),e'];rfl
   have k:cellOf env n=pure c:=by
    unfold cellOf;rw [e']
   rw [z,<-q];dsimp only;rw [IV (by decide),k];rfl
  ·have hb:(k==NameKind.free)=false:=by simpa using hk
   have q:=cw (env:=env) r cs fun y hy=>h y (IZ _ hy);have z:kF env ((n,k) :: r) cs=kF env r cs:=by
    show kF env r (if (k==NameKind.free)=true then (n,(env.cells.lookup n).getD 0) :: cs else cs)=_;rw [hb,IU Jj]
   rw [z,<-q];dsimp only;rw [hb,IU Jj];rfl
theorem oz {scope:Scope} {env:Env} (h:∀ y∈scope.names,y.2=.free->∃ c,env.cells.lookup y.1=some c):closureFor scope env=pure (kF env scope.names []):=by
 have q:=cw (env:=env) scope.names [] h;unfold closureFor;show (forIn scope.names [] _>>=_:Sem _)=_;refine Eq.trans (congrArg (fun m:Sem (List (Str×Addr))=>m>>=fun r=>pure r) (Eq.trans ?_ q)) rfl;rfl
theorem mz {env:Env}:∀ (ns:List (Str×NameKind)) (cs:List (Str×Addr)),(∀ y∈ns,y.2=.free->∃ c,env.cells.lookup y.1=some c)->(∀ y c,cs.lookup y=some c->env.cells.lookup y=some c) ->
  ∀ y c,(kF env ns cs).lookup y=some c->env.cells.lookup y=some c
 | [],_,_,g,y,c,e=>g y c e
 | (n,k) :: r,cs,h,g,y,c,e=>by
  refine mz r _ (fun z hz=>h z (IZ _ hz)) (fun z d e'=>?_) y c e;by_cases hk:(k==NameKind.free)=true
  ·rw [IV hk] at e';rw [LQ] at e';obtain ⟨c',ec⟩:=h (n,k) IP (by simpa using hk);have ec':env.cells.lookup n=some c':=ec;cases hz:z==n with
   | true =>
    rw [hz] at e';have hzn:z=n:=by simpa using hz
    subst hzn;rw [ec'] at e' ⊢;exact e'
   | false=>rw [hz] at e';exact g z d e'
  ·rw [IU hk] at e';exact g z d e'
theorem jX {env:Env} {y:Str}:∀ (ns:List (Str×NameKind)) (cs:List (Str×Addr)),(∃ c,cs.lookup y=some c)->∃ c,(kF env ns cs).lookup y=some c
 | [],_,h=>h
 | (n,k) :: r,cs,h=>by
  refine jX r _ ?_;by_cases hk:(k==NameKind.free)=true
  ·rw [IV hk,LQ];cases y==n
   ·exact h
   ·exact ⟨_,rfl⟩
  ·rw [IU hk];exact h
theorem fv {env:Env} {y:Str}:∀ (ns:List (Str×NameKind)) (cs:List (Str×Addr)),(y,NameKind.free)∈ns->∃ c,(kF env ns cs).lookup y=some c
 | [],_,h=>by simp at h
 | (n,k) :: r,cs,h=>by
  rcases Jb.mp h with e | h
  ·cases e;show ∃ c,(kF env r (if (NameKind.free==NameKind.free)=true then (y,(env.cells.lookup y).getD 0) :: cs else cs)).lookup y=some c;refine jX r _ ⟨(env.cells.lookup y).getD 0,?_⟩;rw [IV (by decide),LQ,JN]
  ·exact fv r _ h
theorem bt {env:Env} {y:Str} {k:NameKind}:∀ (ns:List (Str×NameKind)),
  (ns.map fun (n,k)=>if (k==NameKind.free&&env.scope.kind==.function&&env.kindOf n==some .cell) then (n,NameKind.cell) else (n,k)).lookup y=some k->(y,k)∈ns\/(k=.cell/\(y,NameKind.free)∈ns)
 | [],h=>by simp at h
 | (n,k') :: r,h=>by
  have ih:=fun q=>bt (env:=env) (y:=y) (k:=k) r q;rw [List.map_cons] at h;have h2:=h;have again:=fun q=>(ih q).elim (fun q=>Or.inl (IZ (n,k') q)) fun q=>(Or.inr ⟨q.1,IZ (n,k') q.2⟩:(y,k)∈(n,k') :: r\/(k=.cell/\(y,NameKind.free)∈(n,k') :: r));dsimp only at h2;clear h;by_cases hc:(k'==NameKind.free&&env.scope.kind==.function&&env.kindOf n==some .cell)=true
  ·rw [IV hc,LQ] at h2;cases hy:y==n with
   | true =>
    rw [hy] at h2;have e1:y=n:=by simpa using hy
    have hk:k'=.free:=by
     have:=hc;simp at this;exact this.1.1
    have e2:k=.cell:=(JQ h2).symm;exact .inr ⟨e2,by rw [e1,hk];exact IP⟩
   | false=>rw [hy] at h2;exact again h2
  ·rw [IU hc,LQ] at h2;cases hy:y==n with
   | true =>
    rw [hy] at h2;have e1:y=n:=by simpa using hy
    have e2:k'=k:=JQ h2;exact .inl (by rw [e1,e2];exact IP)
   | false=>rw [hy] at h2;exact again h2
noncomputable def cxB (X:Cx) (N':List Str) (scope:Scope) (C:Addr) (s3:Shared) (H3:Hp) (ex:List Addr):Cx :=
  { prog:=X.prog,w:=X.w,K:=X.K,mg:=X.mg,base:=X.base,A:=X.A,N:=N',s₀:=s3,H₀:=H3,env:=compEnvC scope (kF X.env scope.names []) C X.env,outer:=X.stack,stack:=X.stack,ex:=ex,
    fn:=fun _=>false,calm:=true,pn:=[],xe:=fun _ _=>False }
noncomputable def fi (X:Cx) (scope:Scope):List Str->List Nat->Prop
 | [],[]=>True
 | y :: ys,j :: js=>X.N[j]?=some y/\(X.env.scope.names.lookup y=some .cell/\scope.names.lookup y=some .free)/\fi X scope ys js
 | _,_=>False
theorem fi.get {X:Cx} {scope:Scope}:∀ {ys:List Str} {js:List Nat} {k:Nat} {y:Str},fi X scope ys js->ys[k]?=some y->∃ j,js[k]?=some j/\X.N[j]?=some y/\X.env.scope.names.lookup y=some .cell/\scope.names.lookup y=some .free
 | [],_,_,_,_,e=>by simp at e
 | _ :: _,[],_,_,h,_=>False.elim h
 | y :: ys,j :: js,0,z,h,e=>by simp at e;subst e;exact ⟨j,rfl,h.1,h.2.1⟩
 | y :: ys,j :: js,k+1,z,h,e=>by
  obtain ⟨j',e1,e2⟩:=fi.get (k:=k) h.2.2 (by simpa using e);exact ⟨j',by simpa using e1,e2⟩
theorem fi.len {X:Cx} {scope:Scope}:∀ {ys:List Str} {js:List Nat},fi X scope ys js->ys.length=js.length
 | [],[],_=>rfl
 | _ :: _,_ :: _,h=>by simp [fi.len h.2.2]
 | [],_ :: _,h=>False.elim h
 | _ :: _,[],h=>False.elim h
noncomputable def aN (js:List Nat) (σ:St):St:=js.map fun j=>(σ[j]?).getD none
structure iO (X:Cx) (scope:Scope) (x:Str):Prop where
 kind:scope.kind=.function
 cells:∀ y∈scope.names,y.2≠.cell
 locs:∀ y∈scope.names,y.2=.local->scope.names.lookup y.1=some .local
 var:scope.names.lookup x=some .local
 free:∀ y∈scope.names,y.2=.free->X.env.scope.names.lookup y.1=some .cell
noncomputable def PTs (X:Cx) (ifs:List Expr) (t:TT):Prop :=
 ∀ (pins:List (Addr×Obj)) (s:Shared) (σ:St) (H:Hp) (Q:Bool->Hp->Prop),Inv X pins σ H s->t σ H Q ->
  wpAny (model X.prog X.w) X.A (forIn ifs true fun c r=>if r=true then do let ok<-isTrue c X.env (eval c X.env);pure (ForInStep.yield ok) else pure (ForInStep.yield r)) (TP X pins σ Q) X.xe s
noncomputable def Ed:TT:=fun _ H Q=>Q true H
theorem xA {X:Cx}:PTs X [] Ed:=fun _ _ _ H _ I h=>wpAny_tests_nil ⟨H,I,h⟩
theorem yN {X:Cx} {c:Expr} {t:TT} (h:PT X c t):PTs X [c] t:=fun pins s σ H Q I q=>wpAny_tests_one (h pins s σ H Q I q)
theorem qH {X:Cx} {pins:List (Addr×Obj)} {σ:St} {H:Hp} {s3:Shared} {h1:Heap} {tk:Nat} {scope:Scope} {x:Str} {ys:List Str} {js:List Nat} {ex:List Addr} (I:Inv X pins σ H s3) (hc:X.calm=true) (B:iO X scope x) (cap:fi X scope ys js)
  (hns:h1.Ns s3.heap.objs.size (fun _=>none)) (hk:∀ b o,s3.heap.get? b=some o->h1.get? b=some o)
  (hex:∀ b∈ex,b ∉ frs X.stack/\b < s3.heap.objs.size/\(∀ y c,X.env.cells.lookup y=some c->c≠b)/\X.base.get? b=none) :
  Inv (cxB X (x :: ys) scope s3.heap.objs.size s3 H ex) [] (none :: aN js σ) H { s3 with heap:=h1,toks:=tk }:=by
 have hfree:∀ y∈scope.names,y.2=.free->∃ c,X.env.cells.lookup y.1=some c:=fun y hy hf=>I.ok.has y.1 (.inl (B.free y hy hf));have sub:=mz (env:=X.env) scope.names [] hfree (fun _ _ e=>by simp at e)
 refine ⟨⟨I.ok.mod,B.kind,I.ok.glob,I.ok.blt,IY _,fun y z c h1 h2=>I.ok.inj y z c (sub _ _ h1) (sub _ _ h2),fun y hy=>?_,fun y c hf _=>?_,fun _=>I.ok.hd hc,I.ok.frames,.inl rfl,fun b hb=>?_,fun b o e=>I.bs b o e,Jt I.ok.bsz I.sz,fun b o e hb=>?_,fun b hb=>(hex b hb).1,I.stack,I.pI⟩,
  rfl,I.bare,Un.kept hk,⟨_,hns,fun i y v e1 e2 e3=>?_⟩,fun y c e=>?_,I.hok.fresh (IY _),fun y c e=>I.d4 y c (sub _ _ e),fun p hp=>absurd (show p∈([]:List (Addr×Obj)) from hp) (by simp),I.hok.kept hk,?_⟩
 ·have hy:(relabel scope X.env).names.lookup y=some .cell\/(relabel scope X.env).names.lookup y=some .free:=hy;rcases hy with hy | hy
  ·rcases bt _ hy with q | ⟨_,q⟩
   ·exact absurd rfl (B.cells _ q)
   ·exact fv _ _ q
  ·rcases bt _ hy with q | ⟨q,_⟩
   ·exact fv _ _ q
   ·cases q
 ·exact absurd (show false=true from hf) (by simp)
 ·exact ⟨Js (hex b hb).2.1,fun y c e=>(hex b hb).2.2.1 y c (sub _ _ e)⟩
 ·have e':X.base.get? b=some o:=e;have:=(hex b hb).2.2.2;rw [e'] at this;cases this
 ·cases i with
  | zero=>simp at e2
  | succ i =>
   have e1':ys[i]?=some y:=by simpa [cxB] using e1
   have e2':(aN js σ)[i]?=some (some v):=by simpa using e2
   obtain ⟨j,ej,en,ec,ef⟩:=cap.get e1';have e4:σ[j]?=some (some v):=by
    unfold aN at e2';rw [IX,ej] at e2';simp only [Option.map_some,Option.some.injEq] at e2';cases q:σ[j]? with
    | none=>rw [q] at e2';cases e2'
    | some w=>rw [q] at e2';simp at e2';rw [e2']
   obtain ⟨m,hn,hl⟩:=I.loc;obtain ⟨u,r,l⟩:=hl j y v en e4 (.inr (.inl ec));refine ⟨u,r,.inr ?_⟩;rcases l with ⟨kl,_⟩ | ⟨kc,c,ecl,cell⟩
   ·have kl:X.env.scope.names.lookup y=some .local:=kl;rw [ec] at kl;cases kl
   ·have e3:(relabel scope X.env).names.lookup y=some .local\/(relabel scope X.env).names.lookup y=some .cell\/(relabel scope X.env).names.lookup y=some .free:=e3;refine ⟨?_,?_⟩
    ·rcases e3 with q | q | q
     ·rcases bt _ q with q | ⟨q,_⟩
      ·have:=B.locs _ q rfl;rw [ef] at this;cases this
      ·cases q
     ·exact .inl q
     ·exact .inr q
    ·have mem:(y,NameKind.free)∈scope.names:=K2 ef;obtain ⟨c',ec'⟩:=fv (env:=X.env) scope.names [] mem;have:=sub _ _ ec';rw [ecl] at this;cases this;obtain ⟨o,ho,hd⟩:=cell;exact ⟨c,ec',o,hk _ _ ho,hd⟩
 ·obtain ⟨v,o,ho,hd⟩:=I.cell y c (sub _ _ e);exact ⟨v,o,hk _ _ ho,hd⟩
 ·show (none :: aN js σ).length=(x :: ys).length;rw [Jf,Jf,cap.len];unfold aN;rw [II]
noncomputable def uO (js:List Nat) (wi:TI) (tt:TT) (te:TE):TE:=fun σ H Q=>wi σ H fun J H1=>∃ W:Nat->Nat->List V->Hp->Prop,(∃ m,W 0 m [] H1)/\∀ i m acc H,W i m acc H ->
 (J.stop i H/\acc.length<=sizeLine/\∀ p,H p=none->Q (.ref p) (upd H p (.lst acc)))\/(J.go i H/\acc.length < sizeLine/\∀ x H',J.yld i H x H' ->
  tt (some x :: aN js σ) H' fun b H2=>if b=true then te (some x :: aN js σ) H2 fun y H3=>∃ m',m' < m/\W (i+1) m' (acc++[y]) H3 else ∃ m',m' < m/\W (i+1) m' acc H2)
theorem uJ {M:Model} {A:Around} {α β:Type} {E E':Value->Shared->Prop} {a:α} {t:Sem α} {u:Sem β} {Q:α->Shared->Prop} {R:β->Shared->Prop} {s s':Shared} (e:t=pure a) (h:wpAny M A t Q E s) (k:Q a s->wpAny M A u R E' s'):wpAny M A u R E' s':=by
 subst e;exact fun Γ p hΓ=>k (h Γ p hΓ) Γ p hΓ
theorem t8 {X:Cx} {pins:List (Addr×Obj)} {σ:St} {H:Hp} {s2:Shared} {elt iter:Expr} {x:Str} {px pos:Pos} {ifs:List Expr} {scope:Scope} {tt:TT} {te:TE} {ys:List Str} {js:List Nat} {it:Addr} {fp:List Addr} {tn:Nat->Heap->Prop} {J:It}
    {Q:VK} {E:Value->Shared->Prop} {RR:Value->Addr->Result->Shared->Prop} (hc:X.calm=true) (B:iO X scope x) (nd:(x :: ys).Nodup) (cap:fi X scope ys js)
    (ht:∀ C s3 H3 ex,PTs (cxB X (x :: ys) scope C s3 H3 ex) ifs tt) (he:∀ C s3 H3 ex,PE (cxB X (x :: ys) scope C s3 H3 ex) elt te)
    (I:Inv X pins σ H s2) (T:Turn X.prog X.w X.K (.Name x px) J fp it tn) (h0:tn 0 s2.heap) (hf:∀ b∈fp,uQ X pins H b)
    (W:Nat->Nat->List V->Hp->Prop) (w0:∃ m,W 0 m [] H)
    (turn:∀ i m acc H,W i m acc H->(J.stop i H/\acc.length<=sizeLine/\∀ p,H p=none->Q (.ref p) (upd H p (.lst acc)))\/(J.go i H/\acc.length < sizeLine/\∀ x H',J.yld i H x H' ->
      tt (some x :: aN js σ) H' fun b H2=>if b=true then te (some x :: aN js σ) H2 fun y H3=>∃ m',m' < m/\W (i+1) m' (acc++[y]) H3 else ∃ m',m' < m/\W (i+1) m' acc H2))
    (hRR:∀ (D C:Addr) (H':Hp) (s':Shared) (m':Str->Option Value),s'.heap.Ns C m'->s2.heap.objs.size<=C->C≠D->H' C=none->Inv X pins σ H' s'->Q (.ref D) H'->RR (.ref D) C (.ok .next) s') :
    wpAny (model X.prog X.w) X.A (newList []) (fun acc s₃=>wpAny (model X.prog X.w) X.A (newFunctionEnv scope X.env.globals (kF X.env scope.names []) [] X.env.qual none .none (some X.env)) (fun cenv s₄ =>
      codeAny (model X.prog X.w) X.A (.compStart (.ListComp elt [⟨.Name x px,iter,ifs,0⟩] scope pos) 0 (.ref it) acc { cenv with scope:=relabel scope X.env }) (RR acc cenv.locals) s₄) E s₃) E s2:=by
  refine JU (wpAny_newFunctionEnv B.cells (by intro y hy;simp at hy) (fun h1 hns hsb=>?_) B.kind);dsimp only at hns hsb ⊢;have hD:H s2.heap.objs.size=none:=I.hok.fresh (IY _);generalize hH2:s2.heap.push { cls:=.type "list", dict:=none,data:=.seq ([]:List Value).toArray }=P2 at hns hsb ⊢;have hgetD:P2.get? s2.heap.objs.size=some { cls:=.type "list", dict:=none,data:=.seq ([]:List Value).toArray }:=by rw [<- hH2];exact Jk _ rfl
  have hold:∀ b o,s2.heap.get? b=some o->P2.get? b=some o:=fun b o e=>by rw [<- hH2];exact IQ _ e
  have hsz:P2.objs.size=s2.heap.objs.size+1:=by rw [<- hH2,Heap.size_push]
  have I3:Inv X pins σ H { s2 with heap:=P2,toks:=s2.toks }:=I.kept hold;generalize hDe:s2.heap.objs.size=D at *;have keep1:∀ b o,P2.get? b=some o->h1.get? b=some o:=fun b o e=>hsb.extBut b o (Js (Jc e)) (IQ _ e);have hfp:∀ b∈fp,b < D:=fun b hb=>by
    obtain ⟨o,e,_⟩:=T.obj _ _ h0 b hb;rw [<- hDe];exact Jc e
  have hstk:∀ b,b≠X.env.locals->b ∉ X.fs->b ∉ frs X.stack:=fun b h1 h2 z=>(Jb.mp (I.qc b z)).elim h1 h2;have hDl:D≠X.env.locals:=fun z=>absurd I.lt (by rw [hDe,z];exact Kc _);have hDfs:D ∉ X.fs:=I.C4 (by rw [hDe];exact IY _);have hDc:∀ y c,X.env.cells.lookup y=some c->c≠D:=fun y c e z=>by
    obtain ⟨v,q⟩:=I.cell y c e;have:=q.lt;rw [z,hDe] at this;exact absurd this (Kc _)
  have hex:∀ b∈D :: fp,b ∉ frs X.stack/\b < ({ s2 with heap:=P2,toks:=s2.toks }:Shared).heap.objs.size/\(∀ y c,X.env.cells.lookup y=some c->c≠b)/\X.base.get? b=none:=fun b hb=>by
    rcases Jb.mp hb with rfl | hb
    · refine ⟨hstk _ hDl hDfs,by show _ < P2.objs.size;rw [hsz];exact Kt _,hDc,?_⟩;cases q:X.base.get? b with
      | none=>rfl
      | some o =>
        have:=Jc (I.bk b o q);rw [hDe] at this;exact absurd this (Kc _)
    · obtain ⟨f0,f1,f2,f3,f4,f5⟩:=hf b hb;refine ⟨hstk _ f1 f2,by show _ < P2.objs.size;rw [hsz];exact KW (hfp b hb),f4,?_⟩;cases q:X.base.get? b with
      | none=>rfl
      | some o =>
        rcases f3 with z | z
        · exact absurd z (I.ok.yx b o q)
        · exact absurd (Jo (Jc q) (Jt I.ok.bsz z)) (Kc _)
  have IB:=qH (tk:=s2.toks) (ex:=D :: fp) I3 hc B cap (h1:=h1) hns keep1 hex;have hCD:P2.objs.size≠D:=by rw [hsz];exact Nat.succ_ne_self _
  have start:codeAny (model X.prog X.w) X.A (.compLoop (.ListComp elt [⟨.Name x px,iter,ifs,0⟩] scope pos) 0 (.ref it) (.ref D) (compEnvC scope (kF X.env scope.names []) P2.objs.size X.env)) (RR (.ref D) P2.objs.size) { s2 with heap:=h1,toks:=s2.toks }:=by
    obtain ⟨m0,w0⟩:=w0;refine codeAny_compLoop_tests (fun n s=>∃ i v0 H' acc its k,Inv (cxB X (x :: ys) scope P2.objs.size { s2 with heap:=P2,toks:=s2.toks } H (D :: fp)) [] (v0 :: aN js σ) H' s/\tn i s.heap/\(∀ b∈D :: fp,H' b=none)/\s.heap.get? D=some { cls:=.type "list", data:=.seq its k }/\Vals acc its.toList/\acc.length<=sizeLine/\W i n acc H') ?_ m0 ?_
    · rintro n s ⟨i,v0,H3,acc,its,k,I4,t4,fr4,g4,va,hl4,w4⟩;have hDm:D∈D :: fp:=IP;have exf:=I4.ok.exf;have fsub:∀ b∈D :: fp,b ∉ (cxB X (x :: ys) scope P2.objs.size { s2 with heap:=P2,toks:=s2.toks } H (D :: fp)).fs:=fun b hb=>(hex b hb).1;have stat:∀ {H':Hp} {ob:Obj},(∀ b∈fp,H' b=none)->∀ b∈fp,uQ (cxB X (x :: ys) scope P2.objs.size { s2 with heap:=P2,toks:=s2.toks } H (D :: fp)) [(D,ob)] H' b:=fun {H' ob} hn b hb =>
        ⟨hn b hb,(exf b (IZ _ hb)).1,fsub b (IZ _ hb),.inl (IZ _ hb),(exf b (IZ _ hb)).2,fun p hp z=>by
          have hp':p∈[(D,ob)]:=hp;have e:=Ja.mp hp';rw [e] at z
          exact absurd (hfp b hb) (by rw [<- show D=b from z];exact Kc _)⟩
      have frp:∀ b∈fp,H3 b=none:=fun b hb=>fr4 b (IZ _ hb);have I5:Inv (cxB X (x :: ys) scope P2.objs.size { s2 with heap:=P2,toks:=s2.toks } H (D :: fp)) [(D,{ cls:=.type "list", data:=.seq its k })] (v0 :: aN js σ) H3 s:=I4.cB fun p hp=>by
        rw [Ja.mp hp];exact ⟨g4,fr4 D hDm,(exf D hDm).1,fsub D hDm,fun v z=>nomatch z⟩
      rcases turn i n acc H3 w4 with ⟨stop,hacc,q⟩ | ⟨go,hacc,step⟩
      · refine JV (T.done (cxB X (x :: ys) scope P2.objs.size { s2 with heap:=P2,toks:=s2.toks } H (D :: fp)) rfl rfl rfl rfl i _ s _ H3 (fun _ _=>False) I5 (stat frp) t4 stop) (fun r s1 ⟨hr,I6⟩=>?_) (fun _ _ z=>z.elim);subst hr;obtain ⟨m',hn',_⟩:=id I6.loc;have pD:=(I6.pin (D,{ cls:=.type "list", data:=.seq its k }) (IS _ (Ja.mpr rfl))).1;have nD:H3 D=none:=fr4 D hDm;have u:=I6.base;have uu:Un (frs X.stack) (D :: fp) H (upd H3 D (.lst acc)) P2 s1.heap :=
          ⟨u.keep,u.slot,fun b o q n hx=>by rw [ae fun z=>hx (by rw [z];exact hDm)];exact u.free b o q n hx,u.there,
           fun b xs q=>by rw [ae (ax (u.tq b xs q) nD)];exact u.tq b xs q,fun b o v q=>by rw [ae (ax (u.oG b o v q) nD)];exact u.oG b o v q,
           fun b ps q=>by
            obtain ⟨more,z⟩:=u.tN b ps q
            exact ⟨more,by rw [ae (ax z nD)];exact z⟩⟩
        have hok:HOk X.prog X.w (upd H3 D (.lst acc)) s1.heap:=fun b o e=>by
          by_cases hb:b=D
          · subst hb;rw [ag] at e;cases e;exact ⟨hacc,its.toList,k,va,by rw [Array.toArray_toList];exact pD⟩
          · rw [ae hb] at e;exact (I6.hok b o e).jQ (fun c v _ q=>q) (fun c q=>by rw [ae (ax q nD)];exact q) fun c xs q=>by rw [ae (ax q nD)];exact q
        have fin:=I3.call (g':=s1.gens) (t':=s1.toks) (d':=s1.drawn) uu hok I6.bare (fun b hb=>by
          rcases Jb.mp hb with z | hb
          · rw [z];refine ⟨.inr (by rw [<- hDe];exact I.sz),hDl,hDc,fun p hp z=>?_⟩;have:=Jc (I.pin p hp).1;rw [z,hDe] at this;exact Kc _ this
          · exact ⟨(hf b hb).2.2.2.1,(hf b hb).2.1,(hf b hb).2.2.2.2.1,(hf b hb).2.2.2.2.2⟩)
        have es:({ heap:=s1.heap,gens:=s1.gens,drawn:=s1.drawn,toks:=s1.toks,os:=s2.os }:Shared)=s1:=by
          have:=I6.os;obtain ⟨a1,a2,a3,a4,a5⟩:=s1;have e5:a5=s2.os:=this;rw [e5]
        have fin':Inv X pins σ (upd H3 D (.lst acc)) s1:=es▸fin;exact hRR D P2.objs.size (upd H3 D (.lst acc)) s1 m' hn' (by rw [hsz];exact Nat.le_succ _) hCD (by rw [ae hCD];exact I6.free) fin' (q D nD)
      · refine JV (T.item (cxB X (x :: ys) scope P2.objs.size { s2 with heap:=P2,toks:=s2.toks } H (D :: fp)) rfl rfl rfl rfl i _ s _ H3 (fun _ _=>False) I5 (stat frp) t4 go) (fun r s1 ⟨u,hr,h4⟩=>?_) (fun _ _ z=>z.elim);subst hr;refine uJ (a:=()) rfl h4 fun ⟨x',H5,I6,r6,y6,t6,fr6⟩=>?_;have I7:=I6.pinned (stat fr6) (T.obj _ _ t6);have kx:(relabel scope X.env).names.lookup x=some .local:=lookup_relabel_local B.var;have pg:PG (cxB X (x :: ys) scope P2.objs.size { s2 with heap:=P2,toks:=s2.toks } H (D :: fp)) (.Name x px) (de 0):=kO nd rfl (.inl kx) (.inr kx);refine JV (pg _ s1 _ H5 x' u (fun σ' H'=>σ'=some x' :: aN js σ/\H'=H5) I7 r6 ⟨rfl,rfl⟩) (fun _ s2' ⟨σ6,H6,I8,e1,e2⟩=>?_) (fun _ _ z=>z.elim);subst e1 e2;refine JV (ht _ _ _ _ _ s2' _ _ _ I8 (step x' H6 y6)) (fun b s3' ⟨H7,I9,q9⟩=>?_) (fun _ _ z=>z.elim);have pinsKeep:∀ {σ':St} {H':Hp} {s':Shared},Inv (cxB X (x :: ys) scope P2.objs.size { s2 with heap:=P2,toks:=s2.toks } H (D :: fp)) ([(D,{ cls:=.type "list", data:=.seq its k })]++kb fp s1.heap) σ' H' s' ->
            s'.heap.get? D=some { cls:=.type "list", data:=.seq its k }/\(∀ b∈D :: fp,H' b=none)/\∀ b∈fp,∀ o,s1.heap.get? b=some o->s'.heap.get? b=some o:=fun {σ' H' s'} J=>by
          have pd:=J.pin (D,{ cls:=.type "list", data:=.seq its k }) (IS _ (Jr _ (Ja.mpr rfl)));refine ⟨pd.1,fun b hb=>?_,fun b hb o e=>(J.pin (b,o) (IS _ (IS _ (cJ hb e)))).1⟩;rcases Jb.mp hb with rfl | hb
          · exact pd.2.1
          · obtain ⟨o,e,_⟩:=T.obj _ _ t6 b hb;exact (J.pin (b,o) (IS _ (IS _ (cJ hb e)))).2.1
        cases b with
        | false =>
          rw [IU Jj] at q9;obtain ⟨m',hm,w9⟩:=q9;obtain ⟨p1,p2,p3⟩:=pinsKeep I9;rw [IU Jj];exact ⟨m',hm,i+1,some x',H7,acc,its,k,I9.cB (fun p hp=>absurd hp (by simp)),T.keep _ _ _ t6 p3,p2,p1,va,hl4,w9⟩
        | true =>
          rw [IV rfl] at q9;rw [IV rfl];refine JV (he _ _ _ _ _ s3' _ _ _ I9 q9) (fun y s4' ⟨yv,H8,I10,ry,m',hm,w10⟩=>?_) (fun _ _ z=>z.elim);obtain ⟨p1,p2,p3⟩:=pinsKeep I10;have hsize:its.size=acc.length:=by rw [va.length];simp
          have I11:=I10.cB (pins':=[]) (fun p hp=>absurd hp (by simp));refine wpAny_list_append_plain ⟨k,p1⟩ (fun h' hpl hsame=>?_) (by rw [hsize];exact Ls hacc);obtain ⟨k',e'⟩:=hpl;have neD:∀ {b:Addr} {o:HO},H8 b=some o->b≠D:=fun e z=>by rw [z,p2 D hDm] at e;cases e
          refine ⟨m',hm,i+1,some x',H8,acc++[yv],its.push y,k',?_,?_,p2,e',?_,?_,w10⟩
          · refine I11.step (g':=s4'.gens) (t':=s4'.toks) (d':=s4'.drawn) (ch:=[D]) (fun b hb=>?_) (fun b o _ _ hc' e _=>?_) (fun b o _ _ hc' e _=>⟨o.slots,?_⟩) (fun b o hc' e n=>n) (fun b o hc' e=>⟨o,?_⟩) (fun _ _ z=>z) (fun _ _ _ z=>z) (fun b ps z=>⟨#[],by rw [z];simp⟩) (fun m hn=>hn.sameBut hsame (Ne.symm (exf D hDm).1)) (fun b o e=>?_) I11.bare
            · rw [Ja.mp hb];exact ⟨.inl hDm,(exf D hDm).1,(exf D hDm).2,fun p hp=>absurd (show p∈([]:List (Addr×Obj)) from hp) (by simp)⟩
            · exact (hsame.2 b fun z=>hc' (Ja.mpr z)).trans e
            · exact (hsame.2 b fun z=>hc' (Ja.mpr z)).trans e
            · exact (hsame.2 b fun z=>hc' (Ja.mpr z)).trans e
            · refine (I11.hok b o e).jQ (fun c v hc' q=>(hsame.2 c ?_).trans q) (fun _ q=>q) fun _ _ q=>q;rcases hc' with z | z
              · rw [z];exact neD e
              · exact neD z
          · refine T.keep _ _ _ t6 fun b hb o e=>(hsame.2 b ?_).trans (p3 b hb o e);exact Js (hfp b hb)
          · rw [LK];exact va.append (.cons ry .nil)
          · rw [IH,KP];exact hacc
    · refine ⟨0,none,H,[],#[],_,IB,T.keep _ _ _ h0 (fun b hb o e=>keep1 b o (hold b o e)),fun b hb=>?_,keep1 _ _ hgetD,.nil,JZ _,w0⟩;rcases Jb.mp hb with rfl | hb
      · exact hD
      · exact (hf b hb).1
  exact codeAny_compStart_list start (T.self _ 0 _ _ _ (T.keep _ _ _ h0 (fun b hb o e=>keep1 b o (hold b o e))) start)
theorem xJ {X:Cx} {elt iter:Expr} {x:Str} {px pos:Pos} {ifs:List Expr} {scope:Scope} {wi:TI} {tt:TT} {te:TE} {ys:List Str} {js:List Nat} (hc:X.calm=true) (hi:PI X (.Name x px) iter wi) (B:iO X scope x) (nd:(x :: ys).Nodup) (cap:fi X scope ys js)
  (ht:∀ C s3 H3 ex,PTs (cxB X (x :: ys) scope C s3 H3 ex) ifs tt) (he:∀ C s3 H3 ex,PE (cxB X (x :: ys) scope C s3 H3 ex) elt te) (hs:∀ x,foldedSetIterable iter X.env x=pure x:=by intro _;rfl) :
  PE X (.ListComp elt [⟨.Name x px,iter,ifs,0⟩] scope pos) (uO js wi tt te):=by
 intro pins s σ H Q I h;have hcl:=oz (scope:=scope) (env:=X.env) fun y hy hf=>I.ok.has y.1 (.inl (B.free y hy hf));rw [eval_ListComp];refine wpAny_comprehension_free (use:=none) rfl hs hcl B.kind B.locs (JV (hi pins s σ H _ I h) (fun xv s1 h1=>JV h1 (fun itv s2 h2=>?_) fun _ _ e=>e) fun _ _ e=>e);obtain ⟨it,fp,tn,J,H2,e,I2,T,st2,f2,W,w0,turn⟩:=h2;subst e;refine t8 (RR:=fun acc C=>compPost (model X.prog X.w) X.A X.xe none (EP X pins σ Q) acc C) hc B nd cap ht he I2 T st2 f2 W w0 turn ?_;intro D C H' s' m' hn hC hCD hCn I' q;refine ⟨m',hn,fun h' hs'=>⟨.ref D,H',?_,rfl,q⟩⟩;have hL:X.env.locals≠C:=Js (Jo I2.lt hC);have neC:∀ {b:Addr} {o:HO},H' b=some o->b≠C:=fun e z=>by rw [z,hCn] at e;cases e
 refine I'.step (g':=s'.gens) (t':=s'.toks) (d':=s'.drawn) (ch:=[C]) (fun b hb=>?_) (fun b o _ _ hc' e _=>?_) (fun b o _ _ hc' e _=>⟨o.slots,?_⟩) (fun b o hc' e n=>n) (fun b o hc' e=>⟨o,?_⟩) (fun _ _ z=>z) (fun _ _ _ z=>z) (fun b ps z=>⟨#[],by rw [z];simp⟩) (fun m hn=>hn.sameBut hs' hL) (fun b o e=>?_) I'.bare
 ·rw [Ja.mp hb];refine ⟨.inr (Jt I2.sz hC),Ne.symm hL,fun y c e z=>?_,fun p hp z=>?_⟩
  ·obtain ⟨v,q⟩:=I2.cell y c e;have:=q.lt;rw [z] at this;exact absurd (Jo this hC) (Kc _)
  ·have:=Jc (I2.pin p hp).1;rw [z] at this;exact absurd (Jo this hC) (Kc _)
 ·exact (hs'.2 b fun z=>hc' (Ja.mpr z)).trans e
 ·exact (hs'.2 b fun z=>hc' (Ja.mpr z)).trans e
 ·exact (hs'.2 b fun z=>hc' (Ja.mpr z)).trans e
 ·refine (I'.hok b o e).jQ (fun c v hc' q=>(hs'.2 c ?_).trans q) (fun _ q=>q) fun _ _ q=>q;rcases hc' with z | z
  ·rw [z];exact neC e
  ·exact neC z
end L2
end
section
namespace L2
open PySem PySem.Spec PyProof.Rows
noncomputable def Its (x:Str):It:=⟨fun i _=>i < x.length,fun i H v H'=>H'=H/\∃ c,x.cps[i]?=some c/\v=.str ⟨#[c]⟩,fun i _=>x.length<=i⟩
theorem ub {P:Program} {w:World} {K:Fg} {y:Str} {py:Pos} {x:Str} {it:Addr} {St:Nat->Heap->Prop} (W:∀ A':Around,A'.handled=none->Walks P w A' it [it] [it] x.cps.size (SignAt x) St)
  (ob:∀ i h,St i h->∃ o,h.get? it=some o/\∀ v,o.data≠.cell v) (hs:∀ (A:Around) i (s:Shared) (Q:Value->Shared->Prop) (E:Value->Shared->Prop),St i s.heap->Q (.ref it) s->wpAny (model P w) A (pyIter (.ref it)) Q E s) :
  Turn P w K (.Name y py) (Its x) [it] it (fun i h=>i<=x.cps.size/\St i h) where
 mem:=by simp
 obj:=fun i h st b hb=>by
  have e:b=it:=by simpa using hb
  subst e;exact ob i h st.2
 keep:=fun i h h' st k=>⟨st.1,(W { depth:=0,frames:=none,guards:=none,units:=0,handled:=none } rfl).frame i h h' st.2 fun b hb o e=>k b hb o e⟩
 item:=by
  intro X hP hw hK hc i pins s σ H E I hf st hg;subst hP hw hK;obtain ⟨f0,f1,f2,f3,f4,f5⟩:=hf it (by simp);refine (W X.A (I.ok.hd hc)).item i s _ _ hg st.2 fun v h' tk hv st' kk=>?_;obtain ⟨c,t,hcps,rfl⟩:=hv;have I1:Inv X pins σ H { s with heap:=h',toks:=tk }:=I.turned (fun b o hb e=>kk b o (by simpa using hb) e) f0 f1 f3 f4 f5;exact ⟨_,rfl,IJ (show _ from ⟨.str ⟨#[c]⟩,H,I1,⟨t,rfl⟩,⟨rfl,c,hcps,rfl⟩,⟨hg,st'⟩,fun b hb=>(hf b hb).1⟩)⟩
 done:=by
  intro X hP hw hK hc i pins s σ H E I hf st hg;subst hP hw hK;obtain ⟨f0,f1,f2,f3,f4,f5⟩:=hf it (by simp);have e:i=x.cps.size:=Nat.le_antisymm st.1 hg;subst e;exact (W X.A (I.ok.hd hc)).done s _ _ st.2 fun h' tk kk=>⟨rfl,I.turned (fun b o hb e=>kk b o (by simpa using hb) e) f0 f1 f3 f4 f5⟩
 self:=fun A i s Q E st h=>hs A i s Q E st.2 h
noncomputable def D4 (tl:TE):TI:=fun σ H R=>tl σ H fun x H1=>∃ z,x=.str z/\R (Its z) H1
theorem Ao {X:Cx} {y:Str} {py:Pos} {l:Expr} {tl:TE} (hl:PE X l tl):PI X (.Name y py) l (D4 tl):=by
 intro pins s σ H R I h;refine thn (hl pins s σ H _ I h) fun v s1 ⟨x,H1,I1,r1,q1⟩=>?_;obtain ⟨z,e,q⟩:=q1;subst e;obtain ⟨t,rfl⟩:=r1;have hn:H1 s1.heap.objs.size=none:=I1.hok.fresh (IY _);have key:∀ (T:String) (sz:T = "str_ascii_iterator" \/ T = "str_iterator"),PIE X pins σ (.Name y py) R (.ref s1.heap.objs.size) { s1 with heap:=s1.heap.push { cls:=.type T,data:=.fields #[.str z t,.int 0 0] } }:=fun T sz=>by
  have I2:Inv X pins σ H1 { s1 with heap:=s1.heap.push { cls:=.type T,data:=.fields #[.str z t,.int 0 0] },toks:=s1.toks }:=I1.kept fun b o e=>IQ _ e;have st0:(s1.heap.push { cls:=.type T,data:=.fields #[.str z t,.int 0 0] }).IsStrIter s1.heap.objs.size T z t 0:=⟨_,Jk _ rfl,rfl,rfl⟩;refine ⟨s1.heap.objs.size,[s1.heap.objs.size],fun i h=>i<=z.cps.size/\h.IsStrIter s1.heap.objs.size T z t i,Its z,H1,rfl,I2,?_,⟨JZ _,st0⟩,fun b hb=>?_,q⟩
  ·refine ub (fun A' hA=>?_) (fun i h st=>?_) fun A i s Q E st hq=>?_
   ·rcases sz with rfl | rfl
    ·exact Walks.strAscii hA _ z t
    ·exact Walks.strWide hA _ z t
   ·obtain ⟨o,e,c,d⟩:=st;exact ⟨o,e,fun v z=>by rw [d] at z;cases z⟩
   ·rcases sz with rfl | rfl
    ·exact wpAny_pyIter_striter_ascii st hq
    ·exact wpAny_pyIter_striter_wide st hq
  ·rw [Ja.mp hb];exact I1.z5 (IY _) hn
 cases ha:z.cps.all (· < 128)
 ·exact wpAny_pyIter_wide ha (key _ (.inr rfl))
 ·exact wpAny_pyIter_ascii ha (key _ (.inl rfl))
section
variable {X:Cx}
theorem oF:OpR X (compareOp .LtE) (fun x y H Q=>∃ i j,x=.str i/\y=.str j/\Q (.bl (!(decide (j.cps.toList < i.cps.toList)))) H):=by
 intro pins s σ H x y v u Q I rx ry h;obtain ⟨i,j,rfl,rfl,q⟩:=h;obtain ⟨t,rfl⟩:=rx;obtain ⟨t',rfl⟩:=ry;exact P.le_str ⟨.bl _,H,I,rfl,q⟩
theorem OpR.or' {f:Value->Value->Sem Value} {r r':R2} (h:OpR X f r) (h':OpR X f r'):OpR X f (fun x y H Q=>r x y H Q\/r' x y H Q):=by
 intro pins s σ H x y v u Q I rx ry q;rcases q with q | q
 ·exact h pins s σ H x y v u Q I rx ry q
 ·exact h' pins s σ H x y v u Q I rx ry q
theorem uW:OpR X (binaryOp .FloorDiv) (rI (fun _ j=>0 < j/\j.natAbs.log2 < 9000) fun i j=>.int (i / j)):=opI fun i j _ _ _ _ _ hc q=>by
 have h1:(0:Int) < j:=hc.1;exact floordiv_int (by omega) (by rw [Int.fdiv_eq_ediv_of_nonneg i (by omega)];exact q) (.inl (PyProof.noPylong_of_log2 hc.2))
theorem rR (hc:X.calm=true):aQ X (.builtin "all") (fun xs H Q=>∃ (a:Addr) (bs:List Bool),xs=[.ref a]/\SqL X.K H a (bs.map V.bl)/\Q (.bl (bs.all id)) H):=by
 intro pins s σ H xs us Q I r h;obtain ⟨a,bs,rfl,hq,q⟩:=h;obtain ⟨u,rfl,r1⟩:=vals1 r;cases (show u=Value.ref a from r1);obtain ⟨its,rv,p,hz⟩:=I.list hq;have ha:a < s.heap.objs.size:=by
  obtain ⟨o,e,_⟩:=p.isList;exact Jc e
 refine call_all_walk (wpAny_pyIter_list p.isList ?_);refine ⟨s.heap.objs.size,_,_,_,_,_,fun i=>(bs[i]?).getD true,rfl,Walks.list (show X.A.in1.handled=none from I.ok.hd hc) s.heap.objs.size a (Js ha) its.toArray,⟨⟨_,Jk _ rfl,rfl,rfl⟩,p.isList.push _⟩,?_,?_⟩
 ·intro i v s' Q' E' hv hQ;have hv':its[i]?=some v:=by simpa using hv
  have hi:i < its.length:=(IK.mp hv').1;have hb:i < bs.length:=by have:=rv.length;rw [II] at this;omega
  obtain ⟨u,hu,ru⟩:=rv.get (i:=i) (x:=.bl bs[i]) (by rw [IX,IG hb];rfl);rw [hv'] at hu;cases hu;cases (show v=Value.bool bs[i] from ru);dsimp only at hQ;rw [IG hb] at hQ;exact J8 hQ
 ·intro h' tk kk;have e:(List.range its.toArray.size).all (fun i=>(bs[i]?).getD true)=bs.all id:=by
   have hl:its.toArray.size=bs.length:=by rw [IW,<-rv.length,II]
   rw [hl,Bool.eq_iff_iff,Lj,Lj];constructor
   ·intro h b hb;obtain ⟨i,hi,e⟩:=List.mem_iff_getElem.mp hb;have:=h i (List.mem_range.mpr hi);rw [IG hi,e] at this;exact this
   ·intro h i hi;rw [IG (List.mem_range.mp hi)];exact h _ (LR _)
  rw [e];have I1:Inv X pins σ H { s with heap:=s.heap.push { cls:=.type "list_iterator", data:=.fields #[.ref a,rawInt 0] },toks:=s.toks }:=I.kept fun b o e=>IQ _ e;have hn:H s.heap.objs.size=none:=I.hok.fresh (IY _)
  have I2:Inv X pins σ H { s with heap:=h',toks:=tk }:=I.kept fun b o e=>kk b o (by
   intro z;have:=Ja.mp z;rw [this] at e
   exact absurd (Jc e) (Kc _)) (IQ _ e)
  exact ⟨.bl _,H,I2,rfl,q⟩
noncomputable def oo (x:Str) (lo hi:Option Int):Str:=⟨((x.cps.toList.drop (HT.sIx x.length 0 lo)).take (HT.sIx x.length x.length hi - HT.sIx x.length 0 lo)).toArray⟩
theorem Ep (lo hi:Option Int) (n:Nat):Builtin.Str.strSliceIndices lo hi 1 n=(List.range (HT.sIx n n hi - HT.sIx n 0 lo)).map (HT.sIx n 0 lo+·):=by
 rw [<- sliceRange_one];unfold Builtin.Str.strSliceIndices;dsimp only;have h1:(1:Int) > 0:=by decide
 have e0:(match lo with | none=>(if (1:Int) > 0 then 0 else (n:Int) - 1) | some i=>if (1:Int) > 0 then max 0 (min (if i < 0 then i+(n:Int) else i) (n:Int)) else max (-1) (min (if i < 0 then i+(n:Int) else i) ((n:Int) - 1)))=((HT.sIx n 0 lo:Nat):Int):=by
  cases lo with
  | none=>simp [HT.sIx]
  | some i =>
   simp only [HT.sIx,h1,LF];by_cases h:i < 0
   ·simp only [h,LF] <;> omega
   ·simp only [h,K5] <;> omega
 have e1:(match hi with | none=>(if (1:Int) > 0 then (n:Int) else -1) | some i=>if (1:Int) > 0 then max 0 (min (if i < 0 then i+(n:Int) else i) (n:Int)) else max (-1) (min (if i < 0 then i+(n:Int) else i) ((n:Int) - 1)))=((HT.sIx n n hi:Nat):Int):=by
  cases hi with
  | none=>simp [HT.sIx]
  | some i =>
   simp only [HT.sIx,h1,LF];by_cases h:i < 0
   ·simp only [h,LF] <;> omega
   ·simp only [h,K5] <;> omega
 rw [<- e0,<-e1];cases lo <;> cases hi <;> rfl
theorem ma (n:Nat) (v:Option Int):HT.sIx n n v<=n/\HT.sIx n 0 v<=n:=by
 cases v with
 | none=>simp [HT.sIx]
 | some i =>
  simp only [HT.sIx];split <;> omega
noncomputable def GR:V->Option Int->Option Int->Hp->VK->Prop:=fun x lo hi H Q=>∃ z,x=.str z/\z.length<=sizeLine/\Q (.str (oo z lo hi)) H
theorem fZ (x:Str) (lo hi:Option Int):(oo x lo hi).length<=x.length:=by
 have e:x.cps.toList.length=x.length:=by simp [Str.length]
 show (((x.cps.toList.drop _).take _).toArray).size<=x.length;rw [IW,JR,Ki,e];omega
theorem vo:SlR X GR:=by
 intro pins s σ H x v vl vu lo hi sl Q I rx hs pl pu h;obtain ⟨z,rfl,hz,q⟩:=h;obtain ⟨t,rfl⟩:=rx;refine ⟨"str", _,F.slot_str_getitem.lookup,typeIs_str _ _ _,?_⟩;obtain ⟨l,el,el'⟩:∃ l:Option (Int×Tok),l.map (·.1)=lo/\vl=partValue l:=by
  cases pl with
  | none=>exact ⟨none,rfl,rfl⟩
  | int i t=>exact ⟨some (i,t),rfl,rfl⟩
 obtain ⟨u,eu,eu'⟩:∃ l:Option (Int×Tok),l.map (·.1)=hi/\vu=partValue l:=by
  cases pu with
  | none=>exact ⟨none,rfl,rfl⟩
  | int i t=>exact ⟨some (i,t),rfl,rfl⟩
 subst el' eu';obtain ⟨o,h1,h2,h3⟩:=hs;refine wpAny_getItem_str_slice (l:=l) (u:=u) (st:=none) ⟨o,h1,h2,h3⟩ rfl ?_;have pk:slicePicked z l u none=(List.range (HT.sIx z.length z.length hi - HT.sIx z.length 0 lo)).map (HT.sIx z.length 0 lo+·):=by
  rw [<- Ep,<-el,<-eu];rfl
 have ez:z.cps.toList.length=z.length:=by simp [Str.length]
 have cut:(⟨((slicePicked z l u none).filterMap (z.cps[·]?)).toArray⟩:Str)=oo z lo hi:=by
  rw [pk,pick_run];rfl
 unfold sliceMade;split
 ·rename_i hc;have hl:(slicePicked z l u none).length=z.length:=by
   have:=(K0.mp hc).2;simpa using this
  rw [pk,II,J9] at hl;have b1:=ma z.length hi;have b2:=ma z.length lo;have h0:HT.sIx z.length 0 lo=0\/z.length=0:=by omega
  have e:oo z lo hi=z:=by
   unfold oo;rcases h0 with h0 | h0
   ·rw [h0,List.drop_zero,J7 (by omega)]
   ·have hn:z.cps.toList=[]:=Jw (by omega);rw [hn];have:z.cps=#[]:=by
     have:=congrArg List.toArray hn;simpa using this
    obtain ⟨c⟩:=z;simp only at this;subst this;simp
  rw [e] at q;exact ⟨.str z,H,I,⟨t,rfl⟩,q⟩
 ·rw [cut];exact ⟨Jt (fZ _ _ _) hz,⟨.str _,H,I.tok _,⟨_,rfl⟩,q⟩⟩
end
section
variable {X:Cx}
end
end L2
end
section
namespace L2
open PySem PySem.Spec PyProof.Rows
section
variable {t u:TS} {D:Ends} {σ:St} {H:Hp} {te ta tb tc:TE} {g:TG} {Q:VK} {c a b:TT} {QB:Bool->Hp->Prop} {i:Nat} {v x y:V} {r r':R2} {QA:List V->Hp->Prop} {tA tR:TA} {sp:Sp} {dvs:List V} {E:XK}
end
noncomputable def rOr (r r':R2):R2:=fun x y H Q=>r x y H Q\/r' x y H Q
noncomputable def FT (r r':V->Option Int->Option Int->Hp->VK->Prop):V->Option Int->Option Int->Hp->VK->Prop:=fun x l u H Q=>r x l u H Q\/r' x l u H Q
noncomputable def zU:R2:=fun x y H Q=>∃ i j,x=.str i/\y=.str j/\i.length+j.length<=sizeLine/\Q (.str (i++j)) H
noncomputable def Ec:R2:=fun x y H Q=>∃ i j,x=.str i/\y=.str j/\Q (.bl (decide (i.cps.toList < j.cps.toList))) H
noncomputable def GC:R2:=fun x y H Q=>∃ i j,x=.str i/\y=.str j/\Q (.bl (!(decide (j.cps.toList < i.cps.toList)))) H
noncomputable def Ib:R2:=fun x y H Q=>∃ i j,x=.str i/\y=.str j/\Q (.bl (!(Builtin.Str.occurrences j i 0 j.length 1).isEmpty)) H
noncomputable def xI:R2:=fun x y H Q=>∃ i j,x=.str i/\y=.str j/\Q (.bl (!(!(Builtin.Str.occurrences j i 0 j.length 1).isEmpty))) H
noncomputable def Hc (K:Fg):List V->Hp->VK->Prop:=fun xs H Q=>∃ (a:Addr) (bs:List Bool),xs=[.ref a]/\SqL K H a (bs.map V.bl)/\Q (.bl (bs.all id)) H
noncomputable def AG (K:Fg):List V->Hp->VK->Prop:=fun xs H Q=>∃ x n,xs=[x]/\GL K x H n/\Q (.int n) H
noncomputable def Ej:List V->Hp->VK->Prop:=fun xs H Q=>∃ i,xs=[.int i]/\Q (.int (if i < 0 then -i else i)) H
noncomputable def Ce:List V->Hp->VK->Prop:=fun xs H Q=>(∃ i,xs=[.int i]/\Q (.int i) H)\/∃ k,xs=[.bl k]/\Q (.int (if k then 1 else 0)) H
section
variable {X:Cx}
theorem orR {f:Value->Value->Sem Value} {r r':R2} (h:OpR X f r) (h':OpR X f r'):OpR X f (rOr r r'):=OpR.or' h h'
theorem orS {r r':V->Option Int->Option Int->Hp->VK->Prop} (h:SlR X r) (h':SlR X r'):SlR X (FT r r'):=SlR.or h h'
theorem yP:OpR X (binaryOp .Add) zU:=nZ
theorem Ba:OpR X (compareOp .Lt) Ec:=rp
theorem Az:OpR X (compareOp .LtE) GC:=oF
theorem BE:OpR X (compareOp .In) Ib:=sP
theorem qy:OpR X (compareOp .NotIn) xI:=jM
theorem sV (hc:X.calm=true):aQ X (.builtin "all") (Hc X.K):=rR hc
theorem rh:aQ X (.builtin "len") (AG X.K):=uK
theorem oI:aQ X (.builtin "abs") Ej:=u9
theorem qh:aQ X (.type "int") Ce:=qJ
end
end L2
namespace L2
open PySem
noncomputable def mh (sc scope:Scope) (x:Str):Bool :=
 (scope.kind==.function)&&scope.names.all (fun y=>y.2 != .cell)&&scope.names.all (fun y=>y.2 != .local||scope.names.lookup y.1==some .local)&&(scope.names.lookup x==some .local)&&scope.names.all (fun y=>y.2 != .free||sc.names.lookup y.1==some .cell)
theorem bsc {X:Cx} {sc scope:Scope} {x:Str} (e:X.env.scope=sc) (h:mh sc scope x=true):iO X scope x:=by
 unfold mh at h;simp only [Jx,Lj,Bool.or_eq_true,bne_iff_ne,JD,ne_eq] at h;obtain ⟨⟨⟨⟨h1,h2⟩,h3⟩,h4⟩,h5⟩:=h;exact ⟨h1,fun y hy=>h2 y hy,fun y hy e=>(h3 y hy).resolve_left fun z=>z e,h4,fun y hy e'=>by rw [e];exact (h5 y hy).resolve_left fun z=>z e'⟩
end L2
namespace L2
open PySem
theorem aD {e:Expr} {es:List Expr} {env:Env} (h:PySem.W.isStarred e=false):starEach (e :: es) env=(false,eval e env) :: starEach es env:=by
 cases e <;> first | rfl | exact absurd h (by simp [PySem.W.isStarred])
theorem cg {pos:Pos} {env:Env}:∀ {es:List Expr},es.all (fun e=>!PySem.W.isStarred e)=true->(backTo pos (starEach es env)).any (·.1)=false
 | [],_=>rfl
 | e :: es,h=>by
  rw [List.all_cons,Jx] at h;rw [aD (by simpa using h.1)];have ih:=cg (pos:=pos) (env:=env) h.2;unfold backTo at ih ⊢;rw [List.map_cons,Lm,ih];rfl
section
variable {X:Cx} {e:Expr} {es:List Expr} {te:TE} {t:TA} {x:Str} {p pos:Pos} {id T:String} {r:List V->Hp->VK->Prop} {CX:CXT} {k:Nat} {f:Addr} {fd:FuncData} {ps:List Str} {sp:Sp} {ds:List Value} {dvs:List V} {E:XK}
end
end L2
end
section
namespace L2
open PySem
structure JE (X:Cx) (e:Expr) (t:TE):Prop where
 h:PE X e t
structure JT (X:Cx) (e:Expr) (t:TT):Prop where
 h:PT X e t
structure JW (X:Cx) (e:Expr) (t:TT):Prop where
 h:PW X e t
structure JA (X:Cx) (es:List Expr) (t:TA):Prop where
 h:PA X es t
structure JS (X:Cx) (s:Stmt) (t:TS):Prop where
 h:PS X s t
structure JSs (X:Cx) (s:List Stmt) (t:TS):Prop where
 h:PSs X s t
structure JG (X:Cx) (e:Expr) (t:TG):Prop where
 h:PG X e t
structure JI (X:Cx) (tg e:Expr) (t:TI):Prop where
 h:PI X tg e t
structure JO (X:Cx) (e:Option Expr) (t:TO):Prop where
 h:PO X e t
structure JC (X:Cx) (N:List Str) (scope:Scope) (e:Expr) (t:TE):Prop where
 h:∀ C s3 H3 ex,PE (cxB X N scope C s3 H3 ex) e t
structure JTs (X:Cx) (N:List Str) (scope:Scope) (e:List Expr) (t:TT):Prop where
 h:∀ C s3 H3 ex,PTs (cxB X N scope C s3 H3 ex) e t
structure JP (X:Cx) (pos:Pos) (ks:List (Option Expr)) (vs:List Expr) (t:List (TE×TE)):Prop where
 h:PPs X pos ks vs t
section
variable {X:Cx} {e a b c:Expr} {es rest:List Expr} {te ta tb tc:TE} {tA tB':TT} {t:TA} {x:Str} {p pos:Pos} {id T:String} {r:List V->Hp->VK->Prop} {CX:CXT} {k:Nat} {f:Addr} {fd:FuncData} {ps:List Str} {sp:Sp} {ds:List Value} {dvs:List V} {E:XK}
theorem CO (i:Nat) (hN:X.N[i]?=some x) (hv:Vis X.env.scope x) (hd:(x==("__debug__" : Str))=false) (hcd:(x==("__classdict__" : Str))=false):JE X (.Name x pos) (ug i):=⟨BX hN hv hd hcd⟩
theorem aq {i j}:JE X (.Constant (.int i) j pos) (tC (.int i)):=⟨Ae⟩
theorem eBl {b j}:JE X (.Constant (.bool b) j pos) (tC (.bl b)):=⟨EA⟩
theorem bI {x j}:JE X (.Constant (.str x) j pos) (tC (.str x)):=⟨Ay⟩
theorem aj:JA X [] kM:=⟨Ak⟩
theorem eA (ha:JE X e te) (hr:JA X es t) (h:PySem.W.isStarred e=false):JA X (e :: es) (cF te t):=⟨xB ha.h hr.h (aD h)⟩
theorem BU (F:ba X.prog X.w X.K X.mg X.base CX k f fd ps sp) (hr:cQ k X.A) (hg:Gl X x) (hm:X.mg x=some (.ref f)) (hk:PySem.W.keepIn X.K (.ref f)=true) (hb:Binds X.K fd ps ds) (hd:Vals dvs ds) (hx:Passes CX X E)
  (ha:JA X (e :: es) t) (h1:PySem.W.isStarred e=false) (h2:es.all (fun e=>!PySem.W.isStarred e)=true) (hdb:(x==("__debug__" : Str))=false):JE X (.Call (.Name x p) (e :: es) [] pos) (p9 sp dvs E t) :=
 ⟨xy F hr hg hm hk hb hd hx ha.h hdb (aD h1) (cg h2)⟩
theorem eB (hc:aQ X (.builtin id) r) (hg:Gl X x) (hm:X.mg x=none) (hv:bootBuiltins x=some (.builtin id)) (ha:JA X (e :: es) t) (h1:PySem.W.isStarred e=false) (h2:es.all (fun e=>!PySem.W.isStarred e)=true)
  (hn:x ≠ "__name__") (hdb:(x==("__debug__" : Str))=false):JE X (.Call (.Name x p) (e :: es) [] pos) (tCB r t):=⟨uZ hc hg hm hv ha.h hn hdb (aD h1) (cg h2)⟩
theorem eTy (hc:aQ X (.type T) r) (hg:Gl X x) (hm:X.mg x=none) (hv:bootBuiltins x=some (.type T)) (ha:JA X (e :: es) t) (h1:PySem.W.isStarred e=false) (h2:es.all (fun e=>!PySem.W.isStarred e)=true)
  (hn:x ≠ "__name__") (hdb:(x==("__debug__" : Str))=false):JE X (.Call (.Name x p) (e :: es) [] pos) (tCB r t):=⟨q0 hc hg hm hv ha.h hn hdb (aD h1) (cg h2)⟩
theorem eR1 {tg a:Expr} {ta:TA} (hg:Gl X "range") (hm:X.mg "range" = none) (ha:JA X [a] ta) (h:PySem.W.isStarred a=false):JI X tg (.Call (.Name "range" p) [a] [] pos) (w8 ta):=⟨oU hg hm ha.h (aD h)⟩
theorem eIL {tg:Expr} (h:JE X e te):JI X tg e (tK X.K te):=⟨yn h.h⟩
theorem eIT {tg:Expr} (h:JE X e te):JI X tg e (C5 X.K te):=⟨Am h.h⟩
theorem eIS {y:Str} {py:Pos} (h:JE X e te):JI X (.Name y py) e (D4 te):=⟨Ao h.h⟩
theorem uE {v:V} {u:Value} (hg:Gl X x) (hm:X.mg x=some u) (r:RelV v u) (hd:(x==("__debug__" : Str))=false):JE X (.Name x pos) (tC v):=⟨pJ hg hm r hd⟩
theorem F6 {v:V} {u:Value} (hg:Gl X x) (hm:X.mg x=none) (hv:bootBuiltins x=some u) (r:RelV v u) (hn:x ≠ "__name__") (hd:(x==("__debug__" : Str))=false):JE X (.Name x pos) (tC v):=⟨yR hg hm hv r hn hd⟩
theorem eOp {op:Operator} {r:R2} (ho:OpR X (binaryOp op) r) (ha:JE X a ta) (hb:JE X b tb):JE X (.BinOp a op b pos) (tOp r ta tb):=⟨FW ho ha.h hb.h⟩
theorem eUn {op:UnaryOp} {r:V->Hp->VK->Prop} (ho:UnR X (unaryOp op) r) (ha:JE X a ta):JE X (.UnaryOp op a pos) (tUn r ta):=⟨Gh ho ha.h⟩
theorem Ij (ha:JE X a ta):JE X (.UnaryOp .Not a pos) (ya ta):=⟨A6 ha.h⟩
theorem AB {op} (h:JE X a te):JE X (.BoolOp op [a] pos) te:=⟨AO h.h⟩
theorem y8 (ha:JE X a ta) (hb:JE X (.BoolOp .And (b :: rest) pos) tb):JE X (.BoolOp .And (a :: b :: rest) pos) (yk ta tb):=⟨BM ha.h hb.h⟩
theorem eOr (ha:JE X a ta) (hb:JE X (.BoolOp .Or (b :: rest) pos) tb):JE X (.BoolOp .Or (a :: b :: rest) pos) (D8 ta tb):=⟨EL ha.h hb.h⟩
theorem eIf (hc:JT X c tA) (ha:JE X a ta) (hb:JE X b tb):JE X (.IfExp c a b pos) (tIf tA ta tb):=⟨vd hc.h ha.h hb.h⟩
theorem CD {op:CmpOp} {r:R2} (ho:OpR X (compareOp op) r) (ha:JE X a ta) (hb:JE X b tb) (hm:behindInMarks op b=false):JE X (.Compare a [op] [b] pos) (tOp r ta tb):=⟨yM ho ha.h hb.h hm⟩
theorem k0 {op:CmpOp} {r:R2} (ho:OpR X (compareOp op) r) (ha:JE X a ta) (hb:JE X b tb) (hm:behindInMarks op b=false):JT X (.Compare a [op] [b] pos) (oP (tOp r ta tb)):=⟨yz ho ha.h hb.h hm⟩
theorem Ck {op op':CmpOp} {r r':R2} (ho:OpR X (compareOp op) r) (ho':OpR X (compareOp op') r') (ha:JE X a ta) (hb:JE X b tb) (hc:JE X c tc) (hm:lastMarks [op,op'] [b,c]=false):JE X (.Compare a [op,op'] [b,c] pos) (kB r r' ta tb tc):=⟨tH ho ho' ha.h hb.h hc.h hm⟩
theorem wY {op op':CmpOp} {r r':R2} (ho:OpR X (compareOp op) r) (ho':OpR X (compareOp op') r') (ha:JE X a ta) (hb:JE X b tb) (hc:JE X c tc) (hm:lastMarks [op,op'] [b,c]=false):JT X (.Compare a [op,op'] [b,c] pos) (oP (kB r r' ta tb tc)):=⟨uI ho ho' ha.h hb.h hc.h hm⟩
theorem Ii (h:JE X e te) (he:∀ whole,isTrue e X.env whole=(do let v<-whole;standAt e.pos;holding [v] (truthy v))):JT X e (tB te):=⟨Bu h.h he⟩
theorem g6 (ha:JT X a tA):JT X (.UnaryOp .Not a pos) (E2 tA):=⟨Cn ha.h⟩
theorem jR (ha:JT X a tA):JW X (.BoolOp .And [a] pos) tA:=⟨pw_and1 ha.h⟩
theorem kP (ha:JT X a tA):JW X (.BoolOp .Or [a] pos) tA:=⟨pw_or1 ha.h⟩
theorem sN (ha:JT X a tA) (hb:JW X (.BoolOp .And (b :: rest) pos) tB'):JW X (.BoolOp .And (a :: b :: rest) pos) (FO tA tB'):=⟨pw_and ha.h hb.h⟩
theorem yT (ha:JT X a tA) (hb:JW X (.BoolOp .Or (b :: rest) pos) tB'):JW X (.BoolOp .Or (a :: b :: rest) pos) (tOr tA tB'):=⟨pw_or ha.h hb.h⟩
theorem eW (h:JW X e tA):JT X e tA:=⟨PW.pt h.h⟩
theorem tm {x1} (h:JA X es t):JE X (.Tuple es x1 pos) (CY t):=⟨BJ h.h⟩
theorem tj (h:JA X es t):JE X (.List es pos) (ER t):=⟨BQ h.h⟩
theorem eIx {r:R2} (hr:IxR X r) (ha:JE X a ta) (hb:JE X b tb) (hs:kR b):JE X (.Subscript a b pos) (tOp r ta tb):=⟨E9 hr ha.h hb.h hs⟩
theorem Gu:JO X none rO:=⟨xj⟩
theorem eP (h:JE X e te):JO X (some e) (Bi te):=⟨yC h.h⟩
theorem eSl {p2:Pos} {lo hi:Option Expr} {tl th:TO} {r:V->Option Int->Option Int->Hp->VK->Prop} (hr:SlR X r) (he:JE X e te) (hl:JO X lo tl) (hu:JO X hi th):JE X (.Subscript e (.Slice lo hi none p2) pos) (tSl r te tl th):=⟨uN hr he.h hl.h hu.h⟩
theorem ePN:JP X pos [] [] []:=⟨x5⟩
theorem ePC {k v:Expr} {ks:List (Option Expr)} {vs:List Expr} {tk tv:TE} {trs:List (TE×TE)} (hk:JE X k tk) (hv:JE X v tv) (hr:JP X pos ks vs trs):JP X pos (some k :: ks) (v :: vs) ((tk,tv) :: trs):=⟨u0 hk.h hv.h hr.h⟩
theorem GD {i:Nat} {pos':Pos} (he:JE X e te) (hN:X.N.Nodup) (hi:X.N[i]?=some x) (hx:Loc X.env.scope x) (hs:swapsWith e (some (.Name x pos')) pos.line X.env=pure false) (hf:X.fn x=true\/X.env.scope.names.lookup x=some .local) :
  JS X (.Assign [.Name x pos'] e pos) (tZ te (de i)):=⟨Ag hN hi hx he.h hs hf⟩
theorem Iy {tg:Expr} {g:TG} (he:JE X e te) (hg:JG X tg g) (hs:swapsWithSole [tg] e pos.line X.env=pure false) (hw:swappedStores [tg] e X.env=pure none) (h1:(assignEach [tg] X.env).map (·.2)=[assign tg X.env]):JS X (.Assign [tg] e pos) (tZ te g):=⟨BC he.h hg.h hs hw h1⟩
theorem Hl {iter tg:Expr} {body:List Stmt} {wi:TI} {g:TG} {tb:TS} (hi:JI X tg iter wi) (hg:JG X tg g) (hb:JSs X body tb) (hp:PassesOwn (model X.prog X.w) X.A X.env X.xe) (hc:X.calm=true) (hs:∀ x,foldedSetIterable iter X.env x=pure x):JS X (.For tg iter body [] pos) (As wi g tb):=⟨AY hp hc hi.h hg.h hb.h hs⟩
theorem Af {c:Expr} {body:List Stmt} {tc:TT} {tb:TS} (hc:JT X c tc) (hb:JSs X body tb) (hp:PassesOwn (model X.prog X.w) X.A X.env X.xe):JS X (.While c body [] pos) (p7 tc tb):=⟨vc hp hc.h hb.h⟩
theorem dJ {a b:List Stmt} {tc:TT} {t u:TS} (hc:JT X c tc) (ha:JSs X a t) (hb:JSs X b u):JS X (.If c a b pos) (Gj tc t u):=⟨Fx hc.h ha.h hb.h⟩
theorem a8 (he:JE X e te):JS X (.Return (some e) pos) (Ef te):=⟨zM he.h⟩
theorem eGN {i:Nat} (hN:X.N.Nodup) (hi:X.N[i]?=some x) (hx:Loc X.env.scope x) (hf:X.fn x=true\/X.env.scope.names.lookup x=some .local):JG X (.Name x pos) (de i):=⟨kO hN hi hx hf⟩
theorem oj (he:JE X e te) (hs:swapsWith e none pos.line X.env=pure false):JS X (.Expr e pos) (yY te):=⟨xb he.h hs⟩
theorem Ia {o i:Expr} {to ti:TE} {t:CJ} (ho:JE X o to) (hi:JE X i ti) (hs:ET X t) (ha:∀ v,assign (.Subscript o i pos) X.env v=(do
   let ov<-holding [v] (eval o X.env)
   let iv<-holding [v,ov] (eval i X.env)
   standAt pos
   holding [v,ov,iv] (setItem ov iv v)
   release [v,ov,iv] [])):JG X (.Subscript o i pos) (Gr to ti t):=⟨z0 ho.h hi.h hs ha⟩
theorem dt:JSs X [] xU:=⟨xw⟩
theorem aB {s:Stmt} {t:TS} (h:JS X s t):JSs X [s] t:=⟨xZ h.h⟩
theorem aH {s:Stmt} {rest:List Stmt} {t u:TS} (h:JS X s t) (hr:JSs X rest u):JSs X (s :: rest) (DX t u):=⟨tL h.h hr.h⟩
theorem Fp {elt iter:Expr} {px:Pos} {ifs:List Expr} {scope:Scope} {wi:TI} {tt:TT} {js:List Nat} (ys:List Str) (hi:JI X (.Name x px) iter wi) (ht:JTs X (x :: ys) scope ifs tt) (he:JC X (x :: ys) scope elt te)
  (hc:X.calm=true) (B:iO X scope x) (nd:(x :: ys).Nodup) (cap:fi X scope ys js) (hs:∀ x,foldedSetIterable iter X.env x=pure x):JE X (.ListComp elt [⟨.Name x px,iter,ifs,0⟩] scope pos) (uO js wi tt te):=⟨xJ hc hi.h B nd cap ht.h he.h hs⟩
theorem eC {N:List Str} {scope:Scope} (h:∀ C s3 H3 ex,JE (cxB X N scope C s3 H3 ex) e te):JC X N scope e te:=⟨fun C s3 H3 ex=>(h C s3 H3 ex).h⟩
theorem eT0 {N:List Str} {scope:Scope}:JTs X N scope [] Ed:=⟨fun _ _ _ _=>xA⟩
theorem eT1 {N:List Str} {scope:Scope} (h:∀ C s3 H3 ex,JT (cxB X N scope C s3 H3 ex) e tA):JTs X N scope [e] tA:=⟨fun C s3 H3 ex=>yN (h C s3 H3 ex).h⟩
theorem eBM {apos cpos:Pos} {o:Expr} {name:Str} {to:TE} {r:V->List V->Hp->VK->Prop} (ho:JE X o to) (ha:JA X (e :: es) t) (hm:MtR X id r) (pa:PlainAttrs T) (slot:Slot T name id) (hty:typeOf (.builtin id)=pure (.type "method_descriptor"))
  (hbase:attributeBase o name X.env (eval o X.env)=eval o X.env)
  (hfew:((backTo cpos (starEach (e :: es) X.env)).all (fun x=>!x.1)&&(backToKw cpos (keywordEach [] X.env)).all (fun x=>x.1.isSome)
   && decide ((e :: es).length+([]:List Keyword).length+(if ([]:List Keyword).isEmpty then 0 else 1) < 30))=true)
  (hline:(apos.endLine==cpos.line)=true) (h1:PySem.W.isStarred e=false) (h2:es.all (fun e=>!PySem.W.isStarred e)=true):JE X (.Call (.Attribute o name apos) (e :: es) [] cpos) (tBM X.K T r to t):=⟨DK pa slot hty hm ho.h ha.h hbase hfew hline (aD h1) (cg h2)⟩
end
end L2
end
section
namespace L2
open PySem PySem.Spec PyProof.Rows
noncomputable def tyN:PyData->String
 | .none => "NoneType" | .bool _ => "bool" | .int _ => "int" | .str _ => "str" | .list _ => "list" | .tuple _ => "tuple" | .dict _ => "dict"
noncomputable def isS:PyData->Bool | .str _=>true | _=>false
noncomputable def isI:PyData->Bool | .int _=>true | .bool _=>true | _=>false
noncomputable def isB:PyData->Bool | .bool _=>true | _=>false
noncomputable def isT:PyData->Bool | .tuple _=>true | _=>false
noncomputable def isL:PyData->Bool | .list _=>true | _=>false
section
variable {K:Fg}
theorem Ff (d:PyData):PySem.W.kitOne K (.type (tyN d)) (.type "str")=some (isS d):=by cases d <;> with_unfolding_all rfl
theorem EB (d:PyData):PySem.W.kitOne K (.type (tyN d)) (.type "int")=some (isI d):=by cases d <;> with_unfolding_all rfl
theorem Ds (d:PyData):PySem.W.kitOne K (.type (tyN d)) (.type "bool")=some (isB d):=by cases d <;> with_unfolding_all rfl
theorem Cz (d:PyData):PySem.W.kitOne K (.type (tyN d)) (.type "tuple")=some (isT d):=by cases d <;> with_unfolding_all rfl
theorem Av (d:PyData):PySem.W.kitOne K (.type (tyN d)) (.type "list")=some (isL d):=by cases d <;> with_unfolding_all rfl
variable {p:Addr} {H:Hp} {d:PyData} {v:V} {Q:VK}
end
end L2
end
section
namespace L2
open PySem PySem.Spec PyProof.Rows
theorem ye {b:Bool} {A B:Prop} (e:b=true) (h:A):if b=true then A else B:=by rw [IV e];exact h
theorem uj {b:Bool} {A B:Prop} (e:b=false) (h:B):if b=true then A else B:=by rw [IU (by rw [e];exact Jj)];exact h
theorem cV {b:Bool} {A B:Prop} (h1:b=true->A) (h2:b=false->B):if b=true then A else B:=by
 cases b with
 | true=>rw [IV rfl];exact h1 rfl
 | false=>rw [IU Jj];exact h2 rfl
section
variable {r r':R2} {x y:V} {H:Hp} {Q:VK}
theorem z7 {K:Fg} {z:Str} (l:z.length<=sizeLine) (h:Q (.int z.length) H):AG K [.str z] H Q:=⟨_,_,rfl,⟨l,rfl⟩,h⟩
theorem BN {K:Fg} {p:Addr} {xs:List V} (s:SqL K H p xs) (h:Q (.int xs.length) H):AG K [.ref p] H Q:=⟨_,_,rfl,.inl ⟨xs,s,rfl⟩,h⟩
theorem Cu {K:Fg} {p:Addr} {xs:List V} (s:SqT K H p xs) (h:Q (.int xs.length) H):AG K [.ref p] H Q:=⟨_,_,rfl,.inr ⟨xs,s,rfl⟩,h⟩
theorem Dq {i:Int} (h:Q (.int (if i < 0 then -i else i)) H):Ej [.int i] H Q:=⟨i,rfl,h⟩
end
theorem Fun.okJ {P:Program} {w:World} {K:Fg} {mg:Str->Option Value} {base:Heap} {x qual:Str} {st:Stmt} {f:Addr} {fd:FuncData} {N ps:List Str} {k:Nat} {sp:Sp} (F:Fun K x qual st f fd) (S:af N ps (aa st)) (len:∀ vs H Q E,sp vs H Q E->vs.length=ps.length)
  (hbody:∀ (cdv:Value) (A:Around) (outer:List Env) (s:Shared) (H:Hp) (vs:List V) (Q:VK) (E:XK),cQ k (A.deeper (envOfC qual (aa st) s.heap.objs.size f cdv))->sp vs H Q E ->
   ∃ t,JSs (vm CX0 P w K mg base N qual (aa st) f cdv A outer s H E).nox (bQ st) t/\t { nx:=fun _ H'=>Q .non H',rt:=Q } (start N vs) H):ba P w K mg base CX0 (k+1) f fd ps sp :=
 F.ok S len fun cdv A outer s H vs Q E hr h=>let ⟨t,j,q⟩:=hbody cdv A outer s H vs Q E hr h;⟨t,j.h,q⟩
end L2
end
section
namespace L2
open PySem PySem.Spec PyProof.Rows
theorem g9:∀ {ss:List Str} {us:List Value},Vals (ss.map V.str) us->StrsAre us ss
 | [],_,r=>by cases r;exact .nil
 | s :: ss,_,r=>by
  cases r with
  | cons r1 r2 =>
   obtain ⟨t,rfl⟩:=r1;exact .cons _ _ (g9 r2)
theorem oQ:∀ {ss:List Str} {us:List Value},StrsAre us ss->Vals (ss.map V.str) us
 | [],_,r=>by cases r;exact .nil
 | s :: ss,_,r=>by
  cases r with
  | cons _ _ r2=>exact .cons ⟨_,rfl⟩ (oQ r2)
section
variable {X:Cx}
noncomputable def pb:V->List V->Hp->VK->Prop:=fun x vs H Q=>∃ z y:Str,x=.str z/\vs=[.str y]/\Q (.bl (decide (y.length<=z.length)&&Builtin.Str.subAt z y 0)) H
theorem qd:MtM X "str.startswith" pb:=by
 intro pins s σ H x vs v us Q I rx rv h;obtain ⟨z,y,rfl,rfl,q⟩:=h;obtain ⟨t,rfl⟩:=rx;obtain ⟨u,rfl,ru⟩:=rv.one;obtain ⟨t',rfl⟩:=ru;refine call_meets F.slot_str_startswith (typeIs_str _ _ _) F.entry_str_startswith (F.args_str_startswith_2 _ _) (gives_str_startswith z y t t').meets ?_;exact ⟨.bl _,H,I,by simp only [Nat.zero_add];rfl,q⟩
noncomputable def vB (K:Fg):List V->Hp->VK->Prop:=fun xs H Q=>∃ p ys,xs=[.ref p]/\((SqL K H p ys/\∀ l,H l=none->Q (.ref l) (upd H l (.tup ys)))\/(SqT K H p ys/\Q (.ref p) H))
theorem lW:aQ X (.type "tuple") (vB X.K):=ja
theorem Ip {apos cpos:Pos} {o:Expr} {name:Str} {to:TE} {id T:String} {r:V->List V->Hp->VK->Prop} (ho:JE X o to) (hm:MtR X id r) (pa:PlainAttrs T) (slot:Slot T name id) (hty:typeOf (.builtin id)=pure (.type "method_descriptor"))
  (hbase:attributeBase o name X.env (eval o X.env)=eval o X.env) (hline:(apos.endLine==cpos.line)=true):JE X (.Call (.Attribute o name apos) [] [] cpos) (GA X.K T r to):=⟨B7 pa slot hty hm ho.h hbase hline⟩
end
end L2
end
section
namespace L2
open PySem PySem.Spec PyProof.Rows
section
variable {K:Fg} {js:List Nat} {tt:TT} {te:TE} {σ:St} {H:Hp} {Q:VK} {a:Addr} {xs:List V}
end
noncomputable def qe (xs:List Str):St:=xs.map fun _=>none
noncomputable def BB (n:List Str) (js:List Nat) (wi:TI) (g:TG) (te:TE):TE:=fun σ H Q=>wi σ H fun J H1=>∃ W:Nat->Nat->St->List V->Hp->Prop,(∃ m,W 0 m (qe n++aN js σ) [] H1)/\∀ i m σB acc H,W i m σB acc H ->
 (J.stop i H/\acc.length<=sizeLine/\∀ p,H p=none->Q (.ref p) (upd H p (.lst acc)))\/(J.go i H/\acc.length < sizeLine/\∀ x H',J.yld i H x H' ->
  g x σB H' fun σ2 H2=>te σ2 H2 fun y H3=>∃ m',m' < m/\W (i+1) m' σ2 (acc++[y]) H3)
section
variable {K:Fg} {n:List Str} {js:List Nat} {g:TG} {te:TE} {σ:St} {H:Hp} {Q:VK} {a:Addr} {xs:List V}
end
section
variable {K:Fg} {js:List Nat} {ti:TE} {tt:TT} {te:TE} {σ:St} {H:Hp} {Q:VK} {a:Addr} {xs:List V}
end
section
variable {K:Fg} {js:List Nat} {ti:TE} {tt:TT} {te:TE} {σ:St} {H:Hp} {Q:VK} {a:Addr} {xs:List V}
end
section
variable {X:Cx} {e st:Expr} {te:TE} {lo hi:Option Expr} {tl th ts:TO} {pos p2:Pos}
end
section
variable {X:Cx}
end
noncomputable def HZ (K:Fg) (te:TE):TT:=fun σ H Q=>te σ H fun x H'=>∃ k,C9 K x H' k/\Q k H'
end L2
end
section
namespace L2
open PySem PySem.Spec PyProof.Rows
section
variable {X:Cx} {a b:Expr} {ta tb:TE} {pos:Pos}
end
section
variable {ty td:TE} {σ:St} {H:Hp} {Q:VK}
end
structure JGl (X:Cx) (es:List Expr) (t:TGs):Prop where
 h:PGs X es t
section
variable {X:Cx} {es:List Expr} {t:TGs} {pos:Pos} {x:Str} {i:Nat}
theorem Hd:JGl X [] Ft:=⟨yE⟩
theorem CK (hN:X.N.Nodup) (hi:X.N[i]?=some x) (hx:Loc X.env.scope x) (hf:X.fn x=true\/X.env.scope.names.lookup x=some .local) (h:JGl X es t):JGl X (.Name x pos :: es) (x6 (de i) t):=⟨tQ (kO hN hi hx hf) h.h rfl⟩
theorem eGT {n:Nat} {k} (hc:X.calm=true) (h:JGl X es t) (hn:(assignEach es X.env).length=n) (hst:(assignEach es X.env).findIdx? (·.1)=none):JG X (.Tuple es k pos) (DN X.K n t):=⟨Ax hc h.h hn hst⟩
end
section
variable {K:Fg} {σ:St} {H:Hp} {Q:St->Hp->Prop} {v x:V} {xs:List V} {t:TG} {u:TGs} {n:Nat} {a:Addr}
end
end L2
end
section
namespace L2
open PySem PySem.Spec PyProof.Rows
section
variable {X:Cx}
noncomputable def tFs:List TE->Str->TE
 | [],out=>fun _ H Q=>out.length<=sizeLine/\Q (.str out) H
 | t :: ts,out=>fun σ H Q=>t σ H fun x H1=>∃ y,x=.str y/\(out++y).length<=sizeLine/\tFs ts (out++y) σ H1 Q
noncomputable def PFs (X:Cx) (vs:List Expr) (ts:List TE):Prop :=
 ∀ (pins:List (Addr×Obj)) (s:Shared) (σ:St) (H:Hp) (Q:VK) (out:Str),Inv X pins σ H s->tFs ts out σ H Q->wpAny (model X.prog X.w) X.A (joinParts out (evalEach vs X.env)) (EP X pins σ Q) X.xe s
theorem xN:PFs X [] []:=by
 intro pins s σ H Q out I h;exact joinParts_nil ⟨.str out,H,I.tok _,⟨_,rfl⟩,h.2⟩ h.1
theorem tJ {v:Expr} {vs:List Expr} {t:TE} {ts:List TE} (hv:PE X v t) (hr:PFs X vs ts):PFs X (v :: vs) (t :: ts):=by
 intro pins s σ H Q out I h;show wpAny _ _ (joinParts out (eval v X.env :: evalEach vs X.env)) _ _ s;refine joinParts_cons (thn (hv pins s σ H _ I h) fun u s1 ⟨x,H1,I1,r1,y,ex,hz,q⟩=>?_);subst ex;obtain ⟨t',rfl⟩:=r1;exact ⟨hz,hr pins s1 σ H1 Q _ I1 q⟩
end
structure JF (X:Cx) (vs:List Expr) (ts:List TE):Prop where
 h:PFs X vs ts
section
variable {X:Cx}
theorem eF0:JF X [] []:=⟨xN⟩
theorem eFc {v:Expr} {vs:List Expr} {t:TE} {ts:List TE} (hv:JE X v t) (hr:JF X vs ts):JF X (v :: vs) (t :: ts):=⟨tJ hv.h hr.h⟩
end
section
variable {te:TE} {ts:List TE} {t:TE} {σ:St} {H:Hp} {Q:VK} {out:Str}
end
section
variable {X:Cx} {o e:Expr} {apos cpos:Pos} {te:TE} {a:Addr} {f:Str->Option V}
end
section
variable {js:List Nat} {ta:TA} {tt:TT} {te:TE} {σ:St} {H:Hp} {Q:VK}
end
section
variable {K:Fg} {js:List Nat} {ti:TE} {tt:TT} {te:TE} {σ:St} {H:Hp} {Q:VK} {a:Addr} {xs:List V}
end
end L2
end
section
namespace L2
open PySem PySem.Spec PyProof.Rows
section
variable {X:Cx}
noncomputable def AL (K:Fg):R2:=fun x y H Q=>∃ l b xs zs,x=.ref l/\y=.ref b/\SqL K H l xs/\SqL K H b zs/\xs.length+zs.length<=sizeLine/\∀ p,H p=none->Q (.ref p) (upd H p (.lst (xs++zs)))
theorem xr:OpR X (binaryOp .Add) (AL X.K):=by
 intro pins s σ H x y v u Q I rx ry h;obtain ⟨l,b,xs,zs,rfl,rfl,hH,hB,hz,q⟩:=h;cases rx;cases ry;obtain ⟨its,r,p,_⟩:=I.list hH;obtain ⟨its2,r2,p2,_⟩:=I.list hB;obtain ⟨⟨cls,dd,data,sl⟩,n,ho,hc,hd0,hd⟩:=p;obtain ⟨⟨cls2,dd2,data2,sl2⟩,n2,ho2,hc2,hd02,hd2⟩:=p2;simp only at hc hd hc2 hd2;subst hc hd hc2 hd2;have e:its.toArray++its2.toArray=(its++its2).toArray:=by simp
 refine concat_meets ⟨_,ho,rfl⟩ ⟨_,ho2,rfl⟩ noFill_list_add seq_list_add PySem.F.slot_list_add PySem.F.entry_list_add (PySem.F.args_list_add_2 _ _) (list_addW l b its.toArray its2.toArray n n2 dd dd2 sl sl2 (by rw [IW,IW,<-r.length,<-r2.length];exact hz)) ⟨ho,ho2,?_⟩;rw [e];exact ⟨.ref _,_,I.Ie (t':=s.toks) (r.append r2) (by rw [IH];omega),rfl,q _ I.fresh⟩
end
end L2
end
section
namespace L2
open PySem PySem.Spec PyProof.Rows
mutual
noncomputable def hkB:PyData->Bool
 | .int _=>true
 | .str _=>true
 | .tuple ds=>tf ds
 | _=>false
noncomputable def tf:List PyData->Bool
 | []=>true
 | d :: ds=>hkB d&&tf ds
end
theorem jk:∀ {ds:List PyData},tf ds=true↔∀ d∈ds,hkB d=true
 | []=>by simp [tf]
 | d :: ds=>by simp [tf,jk (ds:=ds)]
noncomputable def kyB (d:PyData):Bool:=hkB d&&d.canLay0&&decide (d.depth<=6)
noncomputable def hk6 (d:PyData):Bool:=hkB d&&decide (d.depth<=6)
mutual
theorem fe:∀ (d e:PyData),hkB d=true->hkB e=true->(PyData.eqv d e=true↔d=e)
 | .int i,e,_,h=>by
  cases e with
  | int j=>simp [PyData.eqv]
  | str y=>simp [PyData.eqv]
  | tuple es=>simp [PyData.eqv]
  | _=>cases h
 | .str x,e,_,h=>by
  cases e with
  | int j=>simp [PyData.eqv]
  | str y=>simp [PyData.eqv]
  | tuple es=>simp [PyData.eqv]
  | _=>cases h
 | .tuple ds,e,h1,h=>by
  cases e with
  | int j=>simp [PyData.eqv]
  | str y=>simp [PyData.eqv]
  | tuple es=>simp only [PyData.eqv,PyData.tuple.injEq];exact pW ds es h1 h
  | _=>cases h
 | .none,_,h,_=>by cases h
 | .bool _,_,h,_=>by cases h
 | .list _,_,h,_=>by cases h
 | .dict _,_,h,_=>by cases h
theorem pW:∀ (ds es:List PyData),tf ds=true->tf es=true->(PyData.eqvAll ds es=true↔ds=es)
 | [],[],_,_=>by simp [PyData.eqvAll]
 | [],_ :: _,_,_=>by simp [PyData.eqvAll]
 | _ :: _,[],_,_=>by simp [PyData.eqvAll]
 | d :: ds,e :: es,h1,h2=>by
  simp only [tf,Jx] at h1 h2;rw [PyData.eqvAll,Jx,fe d e h1.1 h2.1,pW ds es h1.2 h2.2,List.cons.injEq]
end
theorem jL {d:PyData} {ds:List PyData} (h:d∈ds):d.depth+1<=(PyData.tuple ds).depth:=by
 have:∀ {ds:List PyData},d∈ds->d.depth<=PyData.depthAll ds:=by
  intro ds;induction ds with
  | nil=>intro h;cases h
  | cons x xs ih =>
   intro h;rw [PyData.depthAll];rcases Jb.mp h with rfl | h
   ·exact Nat.le_max_left _ _
   ·exact Jt (ih h) (Nat.le_max_right _ _)
 rw [PyData.depth];have:=this h;omega
theorem fw {h:Heap}:∀ {vs:List Value} {ds:List PyData} {as:List Addr},ReadsAll h vs ds as->vs.length=ds.length/\∀ (i:Nat) (v:Value),vs[i]?=some v->∃ d bs,ds[i]?=some d/\Reads h v d bs
 | _,_,_,.nil=>⟨rfl,fun i v e=>by simp at e⟩
 | _,_,_,.cons r t=>by
  obtain ⟨l,f⟩:=fw t;refine ⟨by simp [l],fun i v e=>?_⟩;cases i with
  | zero=>simp at e;subst e;exact ⟨_,_,rfl,r⟩
  | succ i=>simpa using f i v (by simpa using e)
section
variable {P:Program} {w:World} {A:Around} {E:Value->Shared->Prop} {s:Shared}
theorem pQ:∀ (n:Nat) {d:PyData} {v:Value} {as:List Addr} {Q:Bool->Shared->Prop},Reads s.heap v d as->hkB d=true->d.depth<=n->Q true s->wpAny (model P w) A (eqIsQuiet n v) Q E s:=by
 intro n;induction n with
 | zero =>
  intro d v as Q r h hd q;cases r with
  | int i t=>rw [eqIsQuiet_byValue _ rfl];exact IJ q
  | str x t=>rw [eqIsQuiet_byValue _ rfl];exact IJ q
  | tuple _ _ _ _=>rw [PyData.depth] at hd;omega
  | _=>cases h
 | succ n ih =>
  intro d v as Q r h hd q;cases r with
  | int i t=>rw [eqIsQuiet_byValue _ rfl];exact IJ q
  | str x t=>rw [eqIsQuiet_byValue _ rfl];exact IJ q
  | @tuple a o vs k xs as ho hc hdt ra =>
   have hT:s.TypeIs (.ref a) "tuple" := ⟨o,ho,hc⟩;unfold eqIsQuiet;refine IF (LW hT F.slot_tuple_eq.lookup ?_);show wpAny _ _ (isInstance (.ref a) (.type "tuple")>>=_) _ _ s;refine IF (wpAny_isInstance hT isSubtype_tuple_tuple ?_);simp only [Bool.not_true,Ld,K5];refine IF (wpAny_seqItems ho hdt (IF ?_));show wpAny _ _ (forIn vs _ _) _ _ s;rw [<- Array.forIn_toList];have hx:=jk.mp h;refine Li _ (fun rest r s'=>r.1=none/\s'=s/\∀ u∈rest,u∈vs.toList) _ ?_ ?_ _ _ ⟨rfl,rfl,fun _ z=>z⟩
   ·rintro u rest r s' ⟨hr,rfl,hall⟩;obtain ⟨i,hi⟩:=KO.mp (hall u IP);obtain ⟨d',bs,e1,r1⟩:=(fw ra).2 i u hi;have hm:=Jl e1;refine IF (ih r1 (hx d' hm) (by have:=jL hm;omega) ?_);simp only [Bool.not_true,Ld,K5];exact IJ ⟨rfl,rfl,fun y hy=>hall y (IZ _ hy)⟩
   ·rintro ⟨r1,r2⟩ s' ⟨hr,rfl,_⟩;simp only at hr;subst hr;exact IJ q
  | _=>cases h
theorem vS:∀ (n:Nat) {A:Around} {s:Shared} {E:Value->Shared->Prop} {d:PyData} {v:Value} {as:List Addr} {Q:Int->Shared->Prop},Reads s.heap v d as->hkB d=true->d.depth<=n->A.units+n < cLine ->
  (∀ t,Q (bp w d) { s with toks:=t })->wpAny (model P w) A (pyHash v) Q E s:=by
 intro n;induction n with
 | zero =>
  intro A s E d v as Q r h hd hu q;cases r with
  | int i t=>exact wpAny_pyHash_int (q _)
  | str x t=>exact wpAny_pyHash_str (q _)
  | tuple _ _ _ _=>rw [PyData.depth] at hd;omega
  | _=>cases h
 | succ n ih =>
  intro A s E d v as Q r h hd hu q;cases r with
  | int i t=>exact wpAny_pyHash_int (q _)
  | str x t=>exact wpAny_pyHash_str (q _)
  | @tuple a o vs k xs as ho hc hdt ra =>
   have hT:s.TypeIs (.ref a) "tuple" := ⟨o,ho,hc⟩;have hx:=jk.mp h;unfold pyHash;first | unfold pyHashByItsType | skip
   first | refine IF (wpAny_cRoomFor_or (.inr (by omega)) ?_) | skip
   refine IF (LW hT F.slot_tuple_hash.lookup ?_);show wpAny _ _ (if (some (Value.builtin "tuple.__hash__")==some Value.none)=true then _ else _) Q E s;rw [IU (by rw [beq_builtin_none];exact Jj)];refine IF (LW hT F.slot_tuple_hash.lookup ?_);show wpAny _ _ (callSpecialIfBoundUnlessNone? (.ref a) "__hash__" _>>=_) Q E s;refine IF (wpAny_callSpecialIfBoundUnlessNone?_slot hT F.slot_tuple_hash (J6 F.slot_tuple_hash hT F.entry_tuple_hash ?_ (F.args_tuple_hash_1 _)));show wpAny _ _ (Builtin.Tuple.tupleItemsOf (.ref a)>>=_) _ _ s;refine IF (wpAny_tupleItemsOf ho hdt (IF ?_));rw [<- Array.forIn_toList];have hap:∀ (l m:List PyData),bF w (l++m)=bF w l++bF w m:=by
    intro l m;induction l with
    | nil=>rfl
    | cons x l ihl=>rw [LS,bF,bF,ihl];rfl
   refine Li _ (fun rest (b:Array Int) s'=>∃ i,rest=vs.toList.drop i/\b.toList=bF w (xs.take i)/\∃ t,s'={ s with toks:=t }) _ ?_ ?_ _ _ ⟨0,rfl,rfl,_,rfl⟩
   ·rintro u rest b s' ⟨i,hr,hb,t,rfl⟩;have hi:vs.toList[i]?=some u:=by
     have:(vs.toList.drop i)[0]?=some u:=by rw [<- hr];rfl
     simpa using this
    obtain ⟨d',bs,e1,r1⟩:=(fw ra).2 i u hi;have hm:=Jl e1;refine IF (ih (s:={ s with toks:=t }) r1 (hx d' hm) (by have:=jL hm;omega) (by have:A.in1.units=A.units+1:=rfl;omega) fun t'=>?_);have nx:rest=vs.toList.drop (i+1)/\(b.push (bp w d')).toList=bF w (xs.take (i+1))/\∃ t'',({ s with toks:=t' }:Shared)={ s with toks:=t'' }:=by
     refine ⟨?_,?_,_,rfl⟩
     ·have:=congrArg List.tail hr;simpa [List.tail_drop] using this
     ·rw [List.take_add_one,e1,hap,LK,hb];rfl
    first
     | exact IJ ⟨i+1,nx⟩
     | exact IF (IJ (IJ ⟨i+1,nx⟩))
   ·rintro b s' ⟨i,hr,hb,t,rfl⟩;have hi:vs.toList.length<=i:=by
     have:=congrArg List.length hr;simp at this;simpa using (by omega:vs.size<=i)
    rw [J7 (by rw [<- (fw ra).1];exact hi)] at hb;show wpAny _ _ (retInt (Builtin.Tuple.tupleHashOf b.toList)) _ _ _;rw [hb];refine wpAny_ret_mkInt ?_;have q':=q;rw [bp] at q';unfold reduceHash at q';show wpAny _ _ (if (decide (-(2:Int) ^ 63<=Builtin.Tuple.tupleHashOf (bF w xs))&&decide (Builtin.Tuple.tupleHashOf (bF w xs) < 2 ^ 63))=true then _ else _) Q E _;by_cases hc:(decide (-(2:Int) ^ 63<=Builtin.Tuple.tupleHashOf (bF w xs))&&decide (Builtin.Tuple.tupleHashOf (bF w xs) < 2 ^ 63))=true
    ·rw [IV hc];rw [IV hc] at q';exact IJ (q' _)
    ·rw [IU hc];rw [IU hc] at q';exact IF (Ke (IJ (q' _)))
  | _=>cases h
end
end L2
end
section
namespace L2
open PySem PySem.Spec PyProof.Rows
theorem ao {d:PyData}:kyB d=true↔hkB d=true/\d.canLay0=true/\d.depth<=6:=by simp [kyB,and_assoc]
section
variable {P:Program} {w:World} {A:Around} {E:Value->Shared->Prop} {s:Shared}
structure zg (w:World) (h:Heap) (es:Array DictEntry) (ks:List PyData):Prop where
 len:es.size=ks.length
 nd:ks.Nodup
 at_:∀ (j:Nat) (k:PyData),ks[j]?=some k->kyB k=true/\∃ e bs,es[j]?=some e/\e.hash=bp w k/\Reads h e.key k bs
theorem zg.at' {h:Heap} {es:Array DictEntry} {ks:List PyData} (N:zg w h es ks) {j:Nat} {e:DictEntry} (he:es[j]?=some e):∃ k bs,ks[j]?=some k/\kyB k=true/\e.hash=bp w k/\Reads h e.key k bs:=by
 have hj:j < ks.length:=by rw [<- N.len];exact (Array.getElem?_eq_some_iff.mp he).1
 obtain ⟨a,e',bs,b,c,r⟩:=N.at_ j _ (IG hj);rw [he] at b;cases b;exact ⟨_,bs,IG hj,a,c,r⟩
theorem zg.one {h:Heap} {es:Array DictEntry} {ks:List PyData} (N:zg w h es ks) {i j:Nat} {k:PyData} (hi:ks[i]?=some k) (hj:ks[j]?=some k):i=j :=
 (List.getElem?_inj (IK.mp hi).1 N.nd).mp (hi.trans hj.symm)
theorem xR {key key':Value} {k k':PyData} {as bs:List Addr} (hu:A.units+6 < cLine) (r:Reads s.heap key k as) (r':Reads s.heap key' k' bs) (h:kyB k=true) (h':kyB k'=true):SeqAt.EqAt A s key' key (PyData.eqv k' k):=by
 rw [ao] at h h';exact SeqAt.eqAt_reads k' k A s key' key bs as r' r h'.2.1 h.2.1 (by have:=Nat.min_le_right k'.depth k.depth;omega)
theorem Br {key:Value} {k:PyData} {as:List Addr} {st:List Value} {Q:Bool->Shared->Prop} (r:Reads s.heap key k as) (h:kyB k=true) (hst:∀ v∈st,∃ k' bs,Reads s.heap v k' bs/\kyB k'=true) (q:Q false s) :
  wpAny (model P w) A (tableMayTell key st) Q E s:=by
 rw [ao] at h;unfold tableMayTell;split
 ·exact IJ q
 ·refine IF (pQ 8 r h.1 (by omega) ?_);rw [IU (by simp)];refine IF (Li _ (fun rest b s'=>s'=s/\b=(none,())/\∀ v∈rest,v∈st) _ ?_ ?_ _ _ ⟨rfl,rfl,fun _ z=>z⟩)
  ·rintro v rest b s' ⟨rfl,rfl,hr⟩;obtain ⟨k',bs,r',h'⟩:=hst v (hr v IP);rw [ao] at h';refine IF (pQ 8 r' h'.1 (by omega) ?_);rw [IU (by simp)];exact IJ ⟨rfl,rfl,fun v hv=>hr v (IZ _ hv)⟩
  ·rintro b s' ⟨rfl,rfl,_⟩;exact IJ q
theorem qG {h:Heap} {v:Value} {x:Str} {as:List Addr} (r:Reads h v (.str x) as):∃ t,v=.str x t:=by cases r;exact ⟨_,rfl⟩
theorem kY {h:Heap} {v:Value} {x:Str} {k:PyData} {as:List Addr} (r:Reads h v k as) (hk:hkB k=true) (hp:v.isStr x=true):k=.str x:=by
 cases r with
 | str y t=>simp [Value.isStr] at hp;simp [hp]
 | int i t=>simp [Value.isStr] at hp
 | tuple _ _ _ _=>simp [Value.isStr] at hp
 | _=>cases hk
theorem qp {α:Type} {c:Prop} [Decidable c] {x y:Sem α} {Q:α->Shared->Prop} (hx:wpAny (model P w) A x Q E s) (hy:wpAny (model P w) A y Q E s):wpAny (model P w) A (if c then x else y) Q E s:=by
 split
 ·exact hx
 ·exact hy
theorem Bb {α:Type} {c:Prop} [Decidable c] {m:Sem Bool} {f:Bool->Sem α} {Q:α->Shared->Prop} (hm:∀ Q':Bool->Shared->Prop,Q' false s->wpAny (model P w) A m Q' E s) (h:wpAny (model P w) A (f false) Q E s) :
  wpAny (model P w) A (if c then (pure false:Sem Bool)>>=f else m>>=f) Q E s:=qp (IF (IJ h)) (IF (hm _ h))
theorem vU {d:Addr} {o:Obj} {es:Array DictEntry} {ep:Nat} {ks:List PyData} {k:PyData} {key:Value} {as:List Addr} {Q:Option Nat->Shared->Prop}
  (hu:A.units+6 < cLine) (hk:Reads s.heap key k as) (hky:kyB k=true) (ho:s.heap.get? d=some o) (hd:o.data=.dict es ep) (N:zg w s.heap es ks)
  (hnone:(∀ j:Nat,ks[j]?≠some k)->Q none s) (hsome:∀ j:Nat,ks[j]?=some k->Q (some j) s):wpAny (model P w) A (dictFind d key (bp w k)) Q E s:=by
 have hk3:=ao.mp hky;have hsz:=N.len;have hash_at:∀ j:Nat,ks[j]?=some k->((es[j]?.map (·.hash))==some (bp w k))=true:=fun j hj=>by
  obtain ⟨_,e,bs,he,hh,_⟩:=N.at_ j k hj;rw [he];simp [hh]
 have same:∀ {k'},kyB k'=true->(PyData.eqv k' k=true↔k'=k):=fun h'=>fe _ _ (ao.mp h').1 hk3.1;have done:∀ i:Nat,i<=es.size->(∀ j:Nat,j < i->ks[j]?≠some k)->[]=(List.range' i (es.size - i)).filter (fun i=>(es[i]?.map (·.hash))==some (bp w k))->∀ j:Nat,ks[j]?≠some k:=by
  intro i hi hno hr j hj;rcases K1 j i with h | h
  ·exact hno j h hj
  ·have hjl:j < es.size:=by rw [hsz];exact (IK.mp hj).1
   have:=List.filter_eq_nil_iff.mp hr.symm j (List.mem_range'_1.mpr ⟨h,by omega⟩);exact this (hash_at j hj)
 have skip:∀ {i x:Nat},(∀ j:Nat,j < i->ks[j]?≠some k)->(∀ j:Nat,i<=j->j < x->((es[j]?.map (·.hash))==some (bp w k))=false)->∀ j:Nat,j < x->ks[j]?≠some k:=by
  intro i x hno hs j hjx hj;rcases K1 j i with h | h
  ·exact hno j h hj
  ·have:=hs j h hjx;rw [hash_at j hj] at this;cases this
 have step:∀ {x:Nat} {k':PyData},ks[x]?=some k'->k'≠k->(∀ j:Nat,j < x->ks[j]?≠some k)->∀ j:Nat,j < x+1->ks[j]?≠some k:=by
  intro x k' hx hne hno j hj hjk;rcases K1 j x with h | h
  ·exact hno j h hjk
  ·have:j=x:=by omega
   subst this;rw [hx] at hjk;cases hjk;exact hne rfl
 have plain:wpAny (model P w) A (dictWalkPlain d key (bp w k) es (placesWithHash es.size (fun i=>es[i]?.map (·.hash)) (bp w k))) Q E s:=by
  unfold dictWalkPlain
  refine IF (Li _ (fun rest b s'=>s'=s/\b=(none,())/\∃ i:Nat,rest=(List.range' i (es.size - i)).filter (fun i=>(es[i]?.map (·.hash))==some (bp w k))/\i<=es.size/\∀ j:Nat,j < i->ks[j]?≠some k) _ ?_ ?_ _ _
   ⟨rfl,rfl,0,by rw [placesWithHash,List.range_eq_range',Nat.sub_zero],JZ _,fun _ h=>absurd h (Nat.not_lt_zero _)⟩)
  ·rintro x rest b s' ⟨rfl,rfl,i,hr,hi,hno⟩;obtain ⟨hix,hxn,hpx,hskip,hrest⟩:=filter_range'_cons _ _ _ _ _ hr.symm;have hlt:x < es.size:=by omega
   have hex:es[x]?=some es[x]:=JK hlt;obtain ⟨k',bs,hkx,hk',hh,hr'⟩:=N.at' hex;have hno':=skip hno hskip;have hrest':rest=(List.range' (x+1) (es.size - (x+1))).filter (fun i=>(es[i]?.map (·.hash))==some (bp w k)):=by rw [hrest];congr 2;omega
   rw [hex] at hpx ⊢;have hhx:(es[x].hash==bp w k)=true:=by simpa using hpx
   dsimp only;rw [IV hhx];refine IF (Kz ho hd (IF (xR hu hk hr' hky hk' _ _ _ _ (IF (Kz ho hd ?_)))));rw [IU (by simp)];by_cases z:k'=k
   ·subst z;rw [(same hky).mpr rfl];first | rw [IV rfl] | skip
    exact IF (Ke (IJ (IJ (hsome x hkx))))
   ·have:PyData.eqv k' k=false:=by
     cases q:PyData.eqv k' k with
     | false=>rfl
     | true=>exact absurd ((same hk').mp q) z
    rw [this];rw [IU (by simp)];exact IF (Ke (IJ ⟨rfl,rfl,x+1,hrest',hlt,step hkx z hno'⟩))
  ·rintro b s' ⟨rfl,rfl,i,hr,hi,hno⟩;exact IJ (hnone (done i hi hno hr))
 have hst:∀ v∈(placesWithHash es.size (fun i=>es[i]?.map (·.hash)) (bp w k)).filterMap (fun i=>es[i]?.map (·.key)),∃ k' bs,Reads s.heap v k' bs/\kyB k'=true:=by
  intro v hv;obtain ⟨i,_,hi⟩:=List.mem_filterMap.mp hv;obtain ⟨e,he,rfl⟩:=Jd.mp hi;obtain ⟨k',bs,_,h1,_,h2⟩:=N.at' he;exact ⟨k',bs,h2,h1⟩
 unfold dictFind;try with_reducible refine JX ?_
 refine IF (LC ho hd ?_);have shape:(∃ i t,key=.int i t)\/(∃ x t,key=.str x t/\k=.str x)\/∃ a,key=.ref a:=by
  cases hk with
  | int i t=>exact .inl ⟨i,t,rfl⟩
  | str x t=>exact .inr (.inl ⟨x,t,rfl,rfl⟩)
  | tuple _ _ _ _=>exact .inr (.inr ⟨_,rfl⟩)
  | _=>cases hk3.1
 rcases shape with ⟨i,t,rfl⟩ | ⟨x,t,rfl,ek⟩ | ⟨a,rfl⟩;refine qp plain ?_
 rotate_left
 refine qp ?_ (qp plain ?_)
 ·subst ek;unfold foundByValue;cases hf:es.findIdx? (·.key.isStr x) with
  | none =>
   refine IJ (hnone fun j hj=>?_);obtain ⟨_,e,bs,he,_,r⟩:=N.at_ j _ hj;have:=Array.findIdx?_eq_none_iff.mp hf e (Array.mem_of_getElem? he);obtain ⟨t',e'⟩:=qG r;rw [e'] at this;simp [Value.isStr] at this
  | some i =>
   have hi:=(Array.findIdx?_eq_some_iff_getElem.mp hf);obtain ⟨hlt,hp,_⟩:=hi;have hex:es[i]?=some es[i]:=JK hlt;obtain ⟨k',bs,hkx,hk',hh,hr'⟩:=N.at' hex;have e1:k'=.str x:=kY hr' (ao.mp hk').1 hp;subst e1;dsimp only;rw [hex];dsimp only;refine IF (Kz ho hd (IF (xR hu hk hr' hky hk' _ _ _ _ (IF (Kz ho hd ?_)))));rw [IU (by simp),(same hky).mpr rfl];first | rw [IV rfl] | skip
   exact IF (Ke (IJ (hsome i hkx)))
 rotate_left
 refine qp plain ?_;have hany:¬(es.any fun e=>e.key==Value.ref a&&e.hash != bp w k)=true:=by
  rw [<- Array.any_toList,LU];rintro ⟨e,hin,hc⟩;obtain ⟨j,hj⟩:=KO.mp hin;obtain ⟨k',bs,_,_,h3,h4⟩:=N.at' (j:=j) (e:=e) (by simpa using hj);simp only [Jx,JD,bne_iff_ne,ne_eq] at hc;rw [hc.1] at h4;exact hc.2 (by rw [h3,(PySem.Reads.unique h4 _ _ hk).1])
 dsimp only;rw [IU hany]
 all_goals
  refine Bb (fun Q' q=>Br hk hky hst q) ?_;try dsimp only
  rw [IU (by simp)]
  refine IF (Li _ (fun rest b s'=>s'=s/\∃ (i:Nat) (hit:Option Nat),b=(none,hit)/\rest=(List.range' i (es.size - i)).filter (fun i=>(es[i]?.map (·.hash))==some (bp w k))/\i<=es.size /\
    ((hit=none/\∀ j:Nat,j < i->ks[j]?≠some k)\/∃ j,hit=some j/\j < i/\ks[j]?=some k)) _ ?_ ?_ _ _
   ⟨rfl,0,none,rfl,by rw [placesWithHash,List.range_eq_range',Nat.sub_zero],JZ _,.inl ⟨rfl,fun _ h=>absurd h (Nat.not_lt_zero _)⟩⟩)
  ·rintro x rest b s' ⟨rfl,i,hit,rfl,hr,hi,hH⟩;obtain ⟨hix,hxn,hpx,hskip,hrest⟩:=filter_range'_cons _ _ _ _ _ hr.symm;have hlt:x < es.size:=by omega
   have hex:es[x]?=some es[x]:=JK hlt;obtain ⟨k',bs,hkx,hk',hh,hr'⟩:=N.at' hex;have hrest':rest=(List.range' (x+1) (es.size - (x+1))).filter (fun i=>(es[i]?.map (·.hash))==some (bp w k)):=by rw [hrest];congr 2;omega
   rw [hex] at hpx ⊢;have hhx:=(show (es[x].hash==bp w k)=true by simpa using hpx);dsimp only;rw [IV hhx];refine IF (Kz ho hd (IF (xR hu hk hr' hky hk' _ _ _ _ (IF (Kz ho hd ?_)))));rw [IU (by simp)];cases q:PyData.eqv k' k with
   | true =>
    have z:=(same hk').mp q;rw [z] at hkx;first | rw [IV rfl] | skip
    have h0:hit=none:=by
     rcases hH with ⟨h0,_⟩ | ⟨j,_,hj,hjk⟩
     ·exact h0
     ·exact absurd (N.one hjk hkx) (by omega)
    subst h0;simp only [Option.isSome_none,Ld,K5];first | refine IF (IJ ?_) | skip
    refine IF (Ke ?_);split
    ·exact IJ (IJ (hsome x hkx))
    ·exact IJ ⟨rfl,x+1,some x,rfl,hrest',hlt,.inr ⟨x,rfl,Kt x,hkx⟩⟩
   | false =>
    rw [IU (by simp)];have z:k'≠k:=fun e=>by rw [(same hk').mpr e] at q;cases q
    have st:(hit=none/\∀ j:Nat,j < x+1->ks[j]?≠some k)\/∃ j,hit=some j/\j < x+1/\ks[j]?=some k:=by
     rcases hH with ⟨h0,hno⟩ | ⟨j,h0,hj,hjk⟩
     ·exact .inl ⟨h0,step hkx z (skip hno hskip)⟩
     ·exact .inr ⟨j,h0,by omega,hjk⟩
    refine IF (Ke ?_);first | rw [IU (by simp)] | skip
    first
     | exact IJ ⟨rfl,x+1,hit,rfl,hrest',hlt,st⟩
     | exact IF (IJ (IJ ⟨rfl,x+1,hit,rfl,hrest',hlt,st⟩))
  ·rintro b s' ⟨rfl,i,hit,rfl,hr,hi,hH⟩;rcases hH with ⟨rfl,hno⟩ | ⟨j,rfl,_,hj⟩
   ·exact IJ (hnone (done i hi hno hr))
   ·exact IJ (hsome j hj)
end
end L2
end
section
namespace L2
open PySem PySem.Spec PyProof.Rows
noncomputable def kD:Key->PyData | .inl i=>.int i | .inr x=>.str x
noncomputable def cvK (kv:Key×V):PyData×V×V:=(kD kv.1,kV kv.1,kv.2)
theorem zw {a b:Key} (h:kD a=kD b):a=b:=by
 cases a <;> cases b <;> simp [kD] at h <;> simp [h]
theorem ym (w:World) (k:Key):bp w (kD k)=Gw w k:=by cases k <;> rfl
theorem mn {P:Program} {w:World} {H:Hp} (h:Heap) (hb:sysModules < h.objs.size):aW P w H (h.push { cls:=.type "dict", data:=.dict #[] }) h.objs.size (.dD 0 []) :=
 ⟨JZ _,beq_eq_false_iff_ne.mpr (Ne.symm (Js hb)),List.nodup_nil,_,#[],Jk _ rfl,⟨rfl,rfl,rfl⟩,rfl,.nil⟩
theorem j6 {P:Program} {w:World}:∀ {kvs:List (Key×V)} {vs:List (Key×Value)} {es:List DictEntry},KV kvs vs->Pairs (aM P w) es vs->(∀ e∈es,∃ k,(aM P w).is k e.key=true/\e.hash=(aM P w).hash k)->Paired (yF w) (kvs.map cvK) es
 | [],_,_,r,q,_=>by cases r;cases q;exact .nil
 | p :: kvs,_,es,r,q,h=>by
  cases r with
  | cons r t =>
   cases q with
   | @cons e kv es' kvs' h1 h2 h3 =>
    obtain ⟨k,hk,hh⟩:=h e IP;have e1:k=p.1:=by rw [r.1];exact (aM P w).inj _ _ _ hk h1
    subst e1;refine .cons ⟨?_,?_,?_⟩ (j6 t h3 fun e he=>h e (IZ _ he))
    ·rw [hh];exact (ym w _).symm
    ·show RelV (kV p.1) e.key;rcases au (show kH p.1 e.key=true from hk) with ⟨i,t,e1,e2⟩ | ⟨x,t,e1,e2⟩
     ·rw [e1,e2];exact ⟨t,rfl⟩
     ·rw [e1,e2];exact ⟨t,rfl⟩
    ·show RelV p.2 e.val;rw [h2];exact r.2
theorem Ek {P:Program} {w:World} {H:Hp} {h:Heap} {a:Addr} {kvs:List (Key×V)} {vs:List (Key×Value)} (z:kvs.length<=sizeLine) (hd:(a==sysModules)=false) (rel:KV kvs vs) (dd:h.DictOf (aM P w) a vs) :
  ∃ ep,aW P w H h a (.dD ep (kvs.map cvK)):=by
 obtain ⟨o,es,ep,h1,h2,h3,h4,h5,h6⟩:=dd;refine ⟨ep,by rw [II];exact z,hd,?_,o,es,h1,h2,h3,j6 rel h5 fun e he=>h4 e (Array.mem_toList_iff.mp he)⟩;have e1:vs.map (·.1)=kvs.map (·.1):=by
  clear h5 h6 z;unfold KV at rel;induction rel with
  | nil=>rfl
  | cons r t ih=>rw [List.map_cons,List.map_cons,ih,r.1]
 rw [e1] at h6;rw [KI];have:(kvs.map ((fun x:PyData×V×V=>x.1)∘cvK))=(kvs.map (·.1)).map kD:=by rw [KI];rfl
 rw [this];exact List.Pairwise.map kD (fun _ _ n z=>n (zw z)) h6
noncomputable def v8:TE:=fun _ H Q=>∀ p,H p=none->Q (.ref p) (upd H p (.dD 0 []))
noncomputable def qO (trs:List (TE×TE)):TE:=fun σ H Q=>∀ p,H p=none->mZ trs σ (upd H p (.dD 0 [])) fun ps H2=>H2 p=some (.dD 0 [])/\∃ kvs:List (Key×V),ps=kvs.map (fun kv=>(kV kv.1,kv.2))/\kvs.length<=15/\∀ ep,Q (.ref p) (upd H2 p (.dD ep ((cA [] kvs).map cvK)))
section
variable {X:Cx} {pos:Pos}
theorem tP:PE X (.Dict [] [] pos) v8:=fun pins s σ H Q I h =>
 wpAny_Dict_empty ⟨.ref s.heap.objs.size,_,I.laid (o:=.dD 0 []) (t':=s.toks) (fun _ _ q=>IQ _ q) (IY _) (mn s.heap I.big),rfl,h _ (I.hok.fresh (IY _))⟩
theorem tS {keys:List (Option Expr)} {values:List Expr} {trs:List (TE×TE)} (h:PPs X pos keys values trs) (hall:keys.all (·.isSome)=true) (hl:keys.length=values.length) (h0:keys≠[])
  (h15:keys.length<=15):PE X (.Dict keys values pos) (qO trs):=by
 intro pins s σ H Q I q;have hn:=I.hok.fresh (IY s.heap.objs.size);have I1:=I.laid (o:=.dD 0 []) (h':=s.heap.push { cls:=.type "dict", data:=.dict #[] }) (t':=s.toks) (fun _ _ q=>IQ _ q) (IY _) (mn s.heap I.big);refine wpAny_Dict_walk (knd:=aM X.prog X.w) hall hl h0 h15 (thn (h pins _ σ _ _ I1 (q _ hn)) fun ws s2 ⟨ps,H2,I2,rel,e,kvs,ep,lk,q2⟩=>?_);subst ep;obtain ⟨rs,c,rk⟩:=iF (P:=X.prog) (w:=X.w) rel;obtain ⟨z,hd,nd,o,es,g1,g2,g3,g4⟩:=(show aW X.prog X.w H2 s2.heap s.heap.objs.size (.dD 0 []) from I2.hok _ _ e);have ees:es=#[]:=by
  cases es with
  | mk l=>cases g4;rfl
 subst ees;have dd:s2.heap.DictOf (aM X.prog X.w) s.heap.objs.size []:=⟨o,#[],0,g1,g2,g3,fun e he=>by simp at he,.nil,List.nodup_nil⟩;refine ⟨rs,c,dd,fun h' dd' hs=>?_⟩;have hz:(cA [] kvs).length<=sizeLine:=by
  have h1:=dC kvs [];rw [Kp] at h1;rw [J3];omega
 have he:∃ q,h'.get? s.heap.objs.size=some q:=let ⟨q,_,_,hq,_⟩:=dd';⟨q,hq⟩
 obtain ⟨ep,new⟩:=Ek (H:=upd H2 s.heap.objs.size (.dD 0 [])) hz hd (rk.merge .nil) dd';exact ⟨.ref s.heap.objs.size,_,lO I2 (by rw [e];exact True.intro) hs he (ob:=.dD ep ((cA [] kvs).map cvK)) new,rfl,q2 ep⟩
end
noncomputable def oM (xs:List (PyData×V×V)) (k:PyData):Option V:=(xs.find? fun x=>PyData.eqv x.1 k).map (·.2.2)
noncomputable def mD (xs:List (PyData×V×V)) (k:PyData) (j v:V):List (PyData×V×V) :=
 if (xs.any fun x=>PyData.eqv x.1 k)=true then xs.map (fun x=>if PyData.eqv x.1 k=true then (x.1,x.2.1,v) else x) else xs++[(k,j,v)]
noncomputable def i4 (h:Heap) (xs:List (PyData×V×V)):Prop:=∀ x∈xs,kyB x.1=true/\∀ u,RelV x.2.1 u->∃ bs,Reads h u x.1 bs
section
variable {X:Cx} {pins:List (Addr×Obj)} {σ:St} {H:Hp} {s:Shared} {a:Addr} {A:Around} {E:Value->Shared->Prop} {ep:Nat} {xs:List (PyData×V×V)} {k:PyData} {u:Value} {as:List Addr}
theorem dN {α β:Type} {R:α->β->Prop}:∀ {l:List α} {m:List β},Paired R l m->∀ (j:Nat) (x:α),l[j]?=some x->∃ y,m[j]?=some y/\R x y
 | _,_,.nil,j,x,e=>by simp at e
 | _,_,.cons r t,0,x,e=>by simp at e;subst e;exact ⟨_,rfl,r⟩
 | _,_,.cons r t,j+1,x,e=>by simpa using dN t j x (by simpa using e)
theorem qZ {P:Program} {w:World} {h:Heap} {es:Array DictEntry} (kr:i4 h xs) (nd:(xs.map (·.1)).Nodup) (r:Paired (yF w) xs es.toList):zg w h es (xs.map (·.1)) where
 len:=by rw [II,Paired.length r];simp
 nd:=nd
 at_:=fun j k e=>by
  rw [IX] at e;obtain ⟨x,hx,rfl⟩:=Jd.mp e;obtain ⟨en,h1,h2,h3,h4⟩:=dN r j x hx;obtain ⟨k1,k2⟩:=kr x (Jl hx);obtain ⟨bs,r1⟩:=k2 _ h3;exact ⟨k1,en,bs,by simpa using h1,h2,r1⟩
theorem o7 {j:Nat} (kr:i4 s.heap xs) (nd:(xs.map (·.1)).Nodup) (ky:kyB k=true) (hj:(xs.map (·.1))[j]?=some k):∃ x,xs[j]?=some x/\x.1=k/\xs.find? (fun x=>PyData.eqv x.1 k)=some x:=by
 rw [IX] at hj;obtain ⟨x,hx,rfl⟩:=Jd.mp hj;refine ⟨x,hx,rfl,?_⟩;rw [List.find?_eq_some_iff_getElem];obtain ⟨hl,e⟩:=IK.mp hx;refine ⟨(fe _ _ (ao.mp ky).1 (ao.mp ky).1).mpr rfl,j,hl,e,fun i hi=>?_⟩;have hil:i < xs.length:=by omega
 cases q:PyData.eqv xs[i].1 x.1 with
 | false=>rfl
 | true =>
  have z:=(fe _ _ (ao.mp (kr _ (LR hil)).1).1 (ao.mp ky).1).mp q;have e1:(xs.map (·.1))[i]?=some x.1:=by rw [IX,IG hil,Option.map_some,z]
  have e2:(xs.map (·.1))[j]?=some x.1:=by rw [IX,hx];rfl
  have:=(List.getElem?_inj (by rw [II];exact hil) nd).mp (e1.trans e2.symm);omega
theorem p6 (kr:i4 s.heap xs) (ky:kyB k=true) (h:∀ j:Nat,(xs.map (·.1))[j]?≠some k):xs.find? (fun x=>PyData.eqv x.1 k)=none:=by
 rw [List.find?_eq_none];intro x hx q;have z:=(fe _ _ (ao.mp (kr x hx).1).1 (ao.mp ky).1).mp q;obtain ⟨j,hj⟩:=KO.mp hx;exact h j (by rw [IX,hj,Option.map_some,z])
theorem DS {Q:Option Value->Shared->Prop} (hu:A.units+6 < cLine) (I:Inv X pins σ H s) (e:H a=some (.dD ep xs)) (kr:i4 s.heap xs) (hk:Reads s.heap u k as) (ky:kyB k=true)
  (q:∀ t ov,F9 (oM xs k) ov->Q ov { s with toks:=t }):wpAny (model X.prog X.w) A (dictGet a u) Q E s:=by
 obtain ⟨z,hd,nd,o,es,g1,g2,g3,g4⟩:=(show aW X.prog X.w H s.heap a (.dD ep xs) from I.hok _ _ e);unfold dictGet;refine JX (IF (vS 6 hk (ao.mp ky).1 (ao.mp ky).2.2 hu fun t=>?_));refine IF (vU (s:={ s with toks:=t }) hu hk ky g1 g3 (qZ (P:=X.prog) kr nd g4) (fun hno=>?_) fun j hj=>?_)
 ·refine IJ (q _ _ ?_);unfold oM;rw [p6 (s:=s) kr ky hno];exact True.intro
 ·obtain ⟨x,hx,e1,e2⟩:=o7 (s:=s) kr nd ky hj;obtain ⟨en,h1,h2,h3,h4⟩:=dN g4 j x hx;refine IF (LC (s:={ s with toks:=t }) g1 g3 (IJ (q _ _ ?_)));unfold oM;rw [e2,show es[j]?=some en by simpa using h1];exact h4
theorem lS (I:Inv X pins σ H s) (e:H a=some (.dD ep xs)):s.TypeIs (.ref a) "dict" /\ (a==sysModules)=false:=by
 obtain ⟨z,hd,nd,o,es,g1,g2,g3,g4⟩:=(show aW X.prog X.w H s.heap a (.dD ep xs) from I.hok _ _ e);exact ⟨⟨o,g1,g2.1⟩,hd⟩
theorem Bg {v:V} {Q:Value->Shared->Prop} (hu:A.units+7 < cLine) (I:Inv X pins σ H s) (e:H a=some (.dD ep xs)) (kr:i4 s.heap xs) (hk:Reads s.heap u k as) (ky:kyB k=true) (hv:oM xs k=some v)
  (q:∀ t w',RelV v w'->Q w' { s with toks:=t }):wpAny (model X.prog X.w) A (getItem (.ref a) u) Q E s:=by
 obtain ⟨T,_⟩:=lS I e;unfold getItem;refine JX (IF (wpAny_sequenceKey T (by decide) (IF (Kj (name:=Str.ofString "__getitem__") T slot_dict_getitem (J6 slot_dict_getitem T entry_dict_getitem ?_ (args_dict_getitem _ _))))));refine IF (m:=dictGet a u) (DS (by have:A.in1.units=A.units+1:=rfl;omega) I e kr hk ky fun t ov r=>?_);rw [hv] at r;cases ov with
 | none=>cases r
 | some w'=>exact IJ ⟨w',rfl,IJ (q t w' r)⟩
theorem ng {j v:V}:(mD xs k j v).length<=xs.length+1:=by
 unfold mD;split
 ·rw [II];omega
 ·rw [IH];exact IY _
theorem mH {j v:V} (h:xs.find? (fun x=>PyData.eqv x.1 k)=none):mD xs k j v=xs++[(k,j,v)]:=by
 unfold mD;rw [IU];rw [LU];rintro ⟨x,hx,q⟩;exact absurd q (by simpa using List.find?_eq_none.mp h x hx)
theorem mJ {j v:V} {x:PyData×V×V} (h:xs.find? (fun x=>PyData.eqv x.1 k)=some x):mD xs k j v=xs.map (fun x=>if PyData.eqv x.1 k=true then (x.1,x.2.1,v) else x):=by
 unfold mD;rw [IV];rw [LU];exact ⟨x,List.mem_of_find?_eq_some h,by simpa using List.find?_some h⟩
theorem qA {w:World} {h:Heap} {v:V} {r:Value} (ky:kyB k=true) (rv:RelV v r):∀ {xs:List (PyData×V×V)} {es:List DictEntry} {i:Nat},i4 h xs->(xs.map (·.1)).Nodup->(xs.map (·.1))[i]?=some k->Paired (yF w) xs es ->
  Paired (yF w) (xs.map (fun x=>if PyData.eqv x.1 k=true then (x.1,x.2.1,v) else x)) (es.modify i fun e=>{ e with val:=r })
 | [],es,i,_,_,hi,_=>by simp at hi
 | x :: xs,es,i,kr,nd,hi,p=>by
  cases p with
  | @cons _ e _ es' h1 h2 =>
   have ky':=(kr x IP).1;rw [List.map_cons,J4] at nd;have off:∀ {ys:List (PyData×V×V)} {fs:List DictEntry},k ∉ ys.map (·.1)->i4 h ys->Paired (yF w) ys fs->Paired (yF w) (ys.map (fun x=>if PyData.eqv x.1 k=true then (x.1,x.2.1,v) else x)) fs:=by
    intro ys fs hn kr' q;have:(ys.map (fun x=>if PyData.eqv x.1 k=true then (x.1,x.2.1,v) else x))=ys:=by
     refine (List.map_congr_left fun y hy=>?_).trans (List.map_id _);rw [IU]
     ·rfl
     ·intro z;exact hn (Jz.mpr ⟨y,hy,(fe _ _ (ao.mp (kr' y hy).1).1 (ao.mp ky).1).mp z⟩)
    rw [this];exact q
   cases i with
   | zero =>
    simp at hi;subst hi;rw [List.map_cons,IV ((fe _ _ (ao.mp ky).1 (ao.mp ky).1).mpr rfl)];exact .cons ⟨h1.1,h1.2.1,rv⟩ (off nd.1 (fun y hy=>kr y (IZ _ hy)) h2)
   | succ i =>
    have hi':(xs.map (·.1))[i]?=some k:=by simpa using hi
    have ne:x.1≠k:=fun z=>nd.1 (by rw [z];exact Jl hi');rw [List.map_cons,IU fun z=>ne ((fe _ _ (ao.mp ky').1 (ao.mp ky).1).mp z)];exact .cons h1 (qA ky rv (fun y hy=>kr y (IZ _ hy)) nd.2 hi' h2)
theorem D7 {j v:V} {r:Value} {Q:Unit->Shared->Prop} (hu:A.units+7 < cLine) (I:Inv X pins σ H s) (e:H a=some (.dD ep xs)) (kr:i4 s.heap xs) (hk:Reads s.heap u k as) (ky:kyB k=true) (rj:RelV j u) (rv:RelV v r) (hl:xs.length < sizeLine)
  (q:∀ ep' s',Inv X pins σ (upd H a (.dD ep' (mD xs k j v))) s'->Q () s'):wpAny (model X.prog X.w) A (setItem (.ref a) u r) Q E s:=by
 obtain ⟨T,hd⟩:=lS I e;obtain ⟨z,_,nd,o,es,g1,g2,g3,g4⟩:=(show aW X.prog X.w H s.heap a (.dD ep xs) from I.hok _ _ e);have hsz:es.size=xs.length:=by rw [Paired.length g4];simp
 unfold setItem;refine JX (IF (wpAny_sequenceKey T (by decide) (IF (Kj (name:=Str.ofString "__setitem__") T slot_dict_setitem (J6 slot_dict_setitem T entry_dict_setitem ?_ (args_dict_setitem _ _ _))))));refine IF (m:=Builtin.Dict.notOrdered "__setitem__" ⟨[.ref a,u,r],[]⟩) (wpAny_notOrdered_dict T ?_);refine IF (m:=dictSet a u r) ?_;unfold dictSet dictSetHashed;refine JX (IF (vS 6 hk (ao.mp ky).1 (ao.mp ky).2.2 (by have:A.in1.units=A.units+1:=rfl;omega) fun t=>JX ?_));have hl':(mD xs k j v).length<=sizeLine:=by have:=ng (xs:=xs) (k:=k) (j:=j) (v:=v);omega
 refine IF (vU (s:={ s with toks:=t }) (by have:A.in1.units=A.units+1:=rfl;omega) hk ky g1 g3 (qZ (P:=X.prog) kr nd g4) (fun hno=>?_) fun i hi=>?_)
 ·have fn:=p6 (s:=s) kr ky hno;refine IF (Ke (wpAny_updateDictKeys (s:={ s with toks:=t }) (hz:=by omega) g1 g3 (IJ ⟨.none,rfl,IJ (q (ep+1) _ (lO (t':=t) (I.tok t) (by rw [e];exact True.intro) (K3 ..) ⟨_,Ka _ g1 (Obj.isFreed_of_dict (Obj.data_mapDictKeys g3 _))⟩ ?_))⟩)));refine ⟨hl',hd,?_,_,_,Ka _ g1 (Obj.isFreed_of_dict (Obj.data_mapDictKeys g3 _)),g2.mapDictKeys _,Obj.data_mapDictKeys g3 _,?_⟩
  ·rw [mH fn,Ju,JL];refine ⟨nd,by simp,fun y hy z hz=>?_⟩;simp only [List.map_cons,List.map_nil,Ja] at hz;subst hz;rintro rfl;obtain ⟨i,hi⟩:=KO.mp hy;exact hno i hi
  ·rw [mH fn,LK];exact Paired.snoc g4 ⟨rfl,rj,rv⟩
 ·obtain ⟨x,hx,e1,e2⟩:=o7 (s:=s) kr nd ky hi;refine IF (Ke (IF (wpAny_updateDict (s:={ s with toks:=t }) g1 g3 (wpAny_point (IJ ⟨.none,rfl,IJ (q ep _ (lO (t':=t) (I.tok t) (by rw [e];exact True.intro) (K3 ..) ⟨_,Ka _ g1 (Obj.isFreed_of_dict (Obj.data_mapDict g3 _))⟩ ?_))⟩)))));refine ⟨hl',hd,?_,_,_,Ka _ g1 (Obj.isFreed_of_dict (Obj.data_mapDict g3 _)),g2.mapDict _,Obj.data_mapDict g3 _,?_⟩
  ·rw [mJ e2,KI];have:(xs.map ((fun x:PyData×V×V=>x.1)∘fun y=>if PyData.eqv y.1 k=true then (y.1,y.2.1,v) else y))=xs.map (·.1):=List.map_congr_left fun y _=>by
    show (if PyData.eqv y.1 k=true then (y.1,y.2.1,v) else y).1=y.1;split <;> rfl
   rw [this];exact nd
  ·rw [mJ e2,Array.toList_modify];exact qA ky rv kr nd hi g4
end
end L2
end
section
namespace L2
open PySem PySem.Spec PyProof.Rows
section
variable {P:Program} {w:World} {A:Around} {E:Value->Shared->Prop} {s:Shared} {it d:Addr} {o od:Obj} {es:Array DictEntry} {i ep:Nat}
theorem Bp {Q:Value->Shared->Prop} (hd:(d==sysModules)=false) (g1:s.heap.get? d=some od) (g2:od.ExactDict) (g3:od.data=.dict es ep)
  (q:Q (.ref s.heap.objs.size) { s with heap:=s.heap.push { cls:=.type "dict_keyiterator", data:=.fields #[.ref d,.int 0 0,.int es.size 0,.int ep 0] } }):wpAny (model P w) A (pyIter (.ref d)) Q E s:=by
 have T:s.TypeIs (.ref d) "dict" := ⟨od,g1,g2.1⟩;refine wpAny_pyIter_slot T F.slot_dict_iter (J6 F.slot_dict_iter T F.entry_dict_iter ?_ (F.args_dict_iter_1 _));unfold Builtin.«dict.__iter__» Builtin.Dict.dictSlotNone
 refine IF (IF (wpAny_notOrdered_dict T ?_));show wpAny _ _ (pure (Value.ref d):Sem Value) _ _ s;refine IJ ?_;show wpAny _ _ (Builtin.Dict.showsAll d>>=_) _ _ s;unfold Builtin.Dict.showsAll;rw [IU (by rw [hd];exact Jj)];refine IF (IJ (IF (LC g1 g3 (IF (Kz g1 g3 ?_)))));exact IF (JU (IJ ⟨_,rfl, "dict_keyiterator", _,⟨_,Jk _ rfl,rfl⟩,Lp.lookup,q⟩))
theorem CA {Q:Option Value->Shared->Prop} (hit:s.heap.IsKeyIter it d i es.size ep) (g1:s.heap.get? d=some od) (g3:od.data=.dict es ep) {e:DictEntry} (he:es[i]?=some e)
  (q:∀ h',h'.IsKeyIter it d (i+1) es.size ep->Heap.SameBut it s.heap h'->Q (some e.key) { s with heap:=h' }):wpAny (model P w) A (pyNext (.ref it)) Q E s:=by
 obtain ⟨ob,ho,hc,hd⟩:=id hit;have T:=hit.typeIs;unfold pyNext;refine IF (LM (Kj (name:=Str.ofString "__next__") T Lp (J6 Lp T F.entry_dict_keyiterator_next ?_ (F.args_dict_keyiterator_next_1 _))));refine IF (IJ (IF (IF ?_)));first | refine IF (Ln T (IJ (IF (Lu ho hd ?_)))) | refine IF (LL T (IJ (IF (Lu ho hd ?_))))
 simp only [show Builtin.Dict_items.ownsTuple "dict_keyiterator" = false by decide,Ld,K5];show wpAny _ _ (if (Value.ref d==Value.none)=true then _ else _) _ _ s;rw [IU (show ¬((Value.ref d==Value.none)=true) from Jj)];refine IF (IJ (IF (LC g1 g3 ?_)));rw [IU (by simp)];refine IF (IJ (IF (Kz g1 g3 ?_)));rw [IU (by simp)];refine IJ ?_;simp only [show ¬((i:Int) < 0) from by omega,K5,Km,he];refine IF ?_;first | refine IF (Ln T (IJ (IF (wpAny_isOneOf_keyiter T ?_)))) | refine IF (LL T (IJ (IF (wpAny_isOneOf_keyiter T ?_))))
 show wpAny _ _ (setField (.ref it) 1 (rawInt ((i:Int)+1))>>=_) _ _ s;have hit':(s.heap.update it (Obj.mapFields (·.setIfInBounds 1 (rawInt ((i:Int)+1))))).IsKeyIter it d (i+1) es.size ep :=
  ⟨_,Ka _ ho (Obj.isFreed_of_fields (Obj.data_mapFields hd _)),(Obj.cls_mapFields ..).trans hc,by rw [Obj.data_mapFields hd];simp [rawInt]⟩
 refine IF (wpAny_setField ho hd (by simp) (IF (JX ?_)));refine IF (wpAny_isOneOf_keyiter (s:={ s with heap:=s.heap.update it (Obj.mapFields (·.setIfInBounds 1 (rawInt ((i:Int)+1)))) }) hit'.typeIs ?_);show wpAny _ _ (pure e.key:Sem Value) _ _ _;exact IJ (IJ ⟨_,rfl,IJ (q _ hit' (K3 ..))⟩)
theorem Eg {Q:Option Value->Shared->Prop} (hh:A.handled=none) (hit:s.heap.IsKeyIter it d i es.size ep) (g1:s.heap.get? d=some od) (g3:od.data=.dict es ep) (he:es.size<=i)
  (q:∀ h',Heap.ExtBut it s.heap h'->Q none { s with heap:=h' }):wpAny (model P w) A (pyNext (.ref it)) Q E s:=by
 obtain ⟨ob,ho,hc,hd⟩:=id hit;have T:=hit.typeIs;unfold pyNext;refine IF (LM (Kj (name:=Str.ofString "__next__") T Lp (J6 Lp T F.entry_dict_keyiterator_next ?_ (F.args_dict_keyiterator_next_1 _))));refine IF (IJ (IF (IF ?_)));first | refine IF (Ln T (IJ (IF (Lu ho hd ?_)))) | refine IF (LL T (IJ (IF (Lu ho hd ?_))))
 simp only [show Builtin.Dict_items.ownsTuple "dict_keyiterator" = false by decide,Ld,K5];show wpAny _ _ (if (Value.ref d==Value.none)=true then _ else _) _ _ s;rw [IU (show ¬((Value.ref d==Value.none)=true) from Jj)];refine IF (IJ (IF (LC g1 g3 ?_)));rw [IU (by simp)];refine IF (IJ (IF (Kz g1 g3 ?_)));rw [IU (by simp)];refine IJ ?_;simp only [show ¬((i:Int) < 0) from by omega,K5,Km,Ks he];refine IF ?_;first | refine IF (Ln T (IJ ?_)) | refine IF (LL T (IJ ?_))
 show wpAny _ _ (setField (.ref it) 0 .none>>=_) _ _ s;refine IF (wpAny_setField ho hd (by simp) ?_);show wpAny _ _ (newExc (.type "StopIteration") []>>=_) _ _ _;refine IF ?_;simp only [newExc,newTuple];refine IF (JU (IF (m:=firstArgMember _ _) (wpAny_of_eq (a:=Value.none) (by first | rfl | (simp only [firstArgMember];rfl)) (JU ?_ (by size_fits)))) (by size_fits));simp only [raiseNew];refine IF (wpAny_handled ?_);rw [show A.in1.handled=none from hh];refine IF (IJ (wpAny_throw ?_));refine IF (wpAny_isInstance (b:=true) (T := "StopIteration") ⟨_,Jk _ rfl,rfl⟩ isSubtype_stop ?_);exact IJ (q _ (((K3 ..).extBut.push _).push _))
end
noncomputable def Itd (a:Addr) (ep:Nat) (xs:List (PyData×V×V)):It :=
 ⟨fun i H=>H a=some (.dD ep xs)/\i < xs.length,fun i H x H'=>H'=H/\(xs[i]?).map (·.2.1)=some x,fun i H=>H a=some (.dD ep xs)/\xs.length<=i⟩
noncomputable def Im (tl:TE):TI:=fun σ H R=>tl σ H fun x H1=>∃ a ep xs,x=.ref a/\H1 a=some (.dD ep xs)/\R (Itd a ep xs) H1
end L2
end
section
namespace L2
open PySem PySem.Spec PyProof.Rows
section
variable {X:Cx} {pins:List (Addr×Obj)} {σ:List (Option V)} {H:Hp} {s:Shared} {h':Heap}
theorem Inv.Eu {ch:List Addr} {p:Addr} {o:HO} (I:Inv X pins σ H s) (hc:∀ b∈ch,uQ X pins H b) (hp:s.heap.objs.size<=p) (hs:∀ b u,b ∉ ch->s.heap.get? b=some u->h'.get? b=some u) (new:aW X.prog X.w (upd H p o) h' p o):Inv X pins σ (upd H p o) { s with heap:=h' }:=by
 have nH:H p=none:=I.hok.fresh hp;have nd:∀ b u,H b=some u->b≠p:=fun b u e z=>by rw [z,nH] at e;cases e
 have nc:∀ b u,H b=some u->b ∉ ch:=fun b u e z=>by rw [(hc b z).1] at e;cases e
 have np:∀ b u,s.heap.get? b=some u->b≠p:=fun b u e=>Js (Jo (Jc e) hp);refine I.step (t':=s.toks) (g':=s.gens) (d':=s.drawn) (ch:=ch) (fun b hb=>⟨(hc b hb).2.2.2.1,(hc b hb).2.1,(hc b hb).2.2.2.2.1,(hc b hb).2.2.2.2.2⟩) (fun b o _ _ hb e _=>hs b o hb e) (fun b o _ _ hb e _=>⟨o.slots,hs b o hb e⟩) (fun b u hb e n=>by rw [ae (np b u e)];exact n)
  (fun b o hb e=>⟨o,hs b o hb e⟩) (fun b xs e=>by rw [ae (nd b _ e)];exact e) (fun b o u e=>by rw [ae (nd b _ e)];exact e) (fun b ps e=>⟨#[],by rw [ae (nd b _ e),e];simp⟩) (fun m hm=>?_) (fun b u e=>?_) I.bare
 ·obtain ⟨o,es,ep,ho,r⟩:=hm;exact ⟨o,es,ep,hs _ o (fun z=>(hc _ z).2.1 rfl) ho,r⟩
 ·by_cases z:b=p
  ·subst z;rw [ag] at e;cases e;exact new
  ·rw [ae z] at e;refine (I.hok b u e).jQ (fun c v hc' q=>?_) (fun c q=>by rw [ae (nd c _ q)];exact q) fun c xs q=>by rw [ae (nd c _ q)];exact q
   rcases hc' with rfl | hc'
   ·exact hs _ _ (nc _ _ e) q
   ·exact hs _ _ (nc c _ hc') q
end
noncomputable def Itz (K:Fg) (a b:Addr) (xs ys:List V):It :=
 ⟨fun i H=>SqL K H a xs/\SqL K H b ys/\i < xs.length/\i < ys.length,fun i H x H'=>∃ p u v,H p=none/\x=.ref p/\xs[i]?=some u/\ys[i]?=some v/\H'=upd H p (.tup [u,v]),fun i H=>SqL K H a xs/\SqL K H b ys/\(xs.length<=i\/ys.length<=i)⟩
theorem uG {P:Program} {w:World} {K:Fg} {elts:List Expr} {c:Nat} {pos:Pos} (a b z TI TO i1 i2:Addr) (xs ys:List V) (D:ZipApart z TI TO i1 i2 a b):Turn P w K (.Tuple elts c pos) (Itz K a b xs ys) [z,TI,TO,i1,i2] z
  (fun i h=>IsZip h z TI TO .none/\IsPair h TI (.ref i1) (.ref i2)/\(∃ x y,IsPair h TO x y)/\h.IsListIter i1 a i/\h.IsListIter i2 b i) where
 mem:=by simp
 obj:=fun i h st c hc=>by
  obtain ⟨hz,hTI,⟨x,y,hTO⟩,⟨o1,e1,c1,d1⟩,⟨o2,e2,c2,d2⟩⟩:=st;simp only [Jb,KH,K4] at hc;rcases hc with rfl | rfl | rfl | rfl | rfl
  ·exact ⟨_,hz,fun v z=>nomatch z⟩
  ·exact ⟨_,hTI,fun v z=>nomatch z⟩
  ·exact ⟨_,hTO,fun v z=>nomatch z⟩
  ·exact ⟨o1,e1,fun v z=>by rw [d1] at z;cases z⟩
  ·exact ⟨o2,e2,fun v z=>by rw [d2] at z;cases z⟩
 keep:=fun i h h' st k=>by
  obtain ⟨hz,hTI,⟨x,y,hTO⟩,h1,h2⟩:=st;exact ⟨k z (by simp) _ hz,k TI (by simp) _ hTI,⟨x,y,k TO (by simp) _ hTO⟩,h1.at fun o e=>k i1 (by simp) o e,h2.at fun o e=>k i2 (by simp) o e⟩
 item:=by
  intro X hP hw hK hc i pins s σ H E I hf st hg;subst hP hw hK;obtain ⟨hz,hTI,⟨x0,y0,hTO⟩,h1,h2⟩:=st;obtain ⟨q1,q2,l1,l2⟩:=hg;obtain ⟨its,r1,p1,_⟩:=I.list q1;obtain ⟨its2,r2,p2,_⟩:=I.list q2;have hx:=IG l1;have hy:=IG l2;obtain ⟨u,hu,ru⟩:=r1.get hx;obtain ⟨v,hv,rv⟩:=r2.get hy;refine wpAny_pyNext_zip_item D hz hTI hTO h1 h2 p1.isList p2.isList (x:=u) (y:=v) (by simpa using hu) (by simpa using hv) fun h' a1 a2 a3 a4 a5 a6 a7=>⟨_,rfl,?_⟩;refine wpAny_letOwnedTupleGo_zip a1 fun h2' hz' sb=>?_;have keep:∀ b o,b ∉ [z,TI,TO,i1,i2]->s.heap.get? b=some o->h2'.get? b=some o:=fun b o hb e=>by
   simp only [Jb,KH,K4,not_or] at hb;exact (sb.2 b hb.1).trans (a7 b o hb.1 hb.2.2.1 hb.2.2.2.1 hb.2.2.2.2 e)
  have nz:s.heap.objs.size≠z:=Kf (Jc hz);have gp:IsPair h2' s.heap.objs.size u v:=(sb.2 _ nz).trans a5;have In:Inv X pins σ (upd H s.heap.objs.size (.tup [xs[i],ys[i]])) { s with heap:=h2' }:=I.Eu hf (IY _) keep ⟨by rw [J3];exact Nat.le_of_ble_eq_true rfl,[u,v],.cons ru (.cons rv .nil),⟨_,gp,rfl,0,rfl⟩⟩;refine ⟨.ref s.heap.objs.size,_,In,rfl,⟨_,_,_,I.hok.fresh (IY _),rfl,hx,hy,rfl⟩,⟨hz',?_,⟨u,v,(sb.2 _ D.TOz).trans a2⟩,a3.extBut sb.extBut D.i1z,a4.extBut sb.extBut D.i2z⟩,fun b hb=>?_⟩
  ·exact (sb.2 _ D.TIz).trans (a7 _ _ D.TIz D.TITO D.TIi1 D.TIi2 hTI)
  ·have:=hf b hb;rw [ae]
   ·exact this.1
   ·intro z';subst z';simp only [Jb,KH,K4] at hb;rcases hb with hb | hb | hb | hb | hb
    ·exact nz hb
    ·exact absurd hb (Kf (Jc hTI))
    ·exact absurd hb (Kf (Jc hTO))
    ·obtain ⟨_,e,_⟩:=h1;exact absurd hb (Kf (Jc e))
    ·obtain ⟨_,e,_⟩:=h2;exact absurd hb (Kf (Jc e))
 done:=by
  intro X hP hw hK hc i pins s σ H E I hf st hg;subst hP hw hK;obtain ⟨hz,hTI,⟨x0,y0,hTO⟩,h1,h2⟩:=st;obtain ⟨q1,q2,l⟩:=hg;obtain ⟨its,r1,p1,_⟩:=I.list q1;obtain ⟨its2,r2,p2,_⟩:=I.list q2;refine wpAny_pyNext_zip_end (I.ok.hd hc) D hz hTI hTO h1 h2 p1.isList p2.isList ?_ fun h' k=>⟨rfl,?_⟩
  ·rcases l with l | l
   ·exact .inl (Ks (by rw [IW,<-r1.length];exact l))
   ·exact .inr (Ks (by rw [IW,<-r2.length];exact l))
  ·have nd:∀ b u,H b=some u->b ∉ [z,TI,TO,i1,i2]:=fun b u e hb=>by rw [(hf b hb).1] at e;cases e
   have ks:∀ b o,b ∉ [z,TI,TO,i1,i2]->s.heap.get? b=some o->h'.get? b=some o:=fun b o hb e=>by
    simp only [Jb,KH,K4,not_or] at hb;exact k b o hb.1 hb.2.2.1 hb.2.2.2.1 hb.2.2.2.2 e
   refine I.step (t':=s.toks) (g':=s.gens) (d':=s.drawn) (ch:=[z,TI,TO,i1,i2]) (fun b hb=>⟨(hf b hb).2.2.2.1,(hf b hb).2.1,(hf b hb).2.2.2.2.1,(hf b hb).2.2.2.2.2⟩) (fun b o _ _ hb e _=>ks b o hb e) (fun b o _ _ hb e _=>⟨o.slots,ks b o hb e⟩) (fun _ _ _ _ n=>n) (fun b o hb e=>⟨o,ks b o hb e⟩) (fun _ _ e=>e) (fun _ _ _ e=>e) (fun b ps e=>⟨#[],by rw [e];simp⟩) (fun m hm=>?_) (fun b u e=>?_) I.bare
   ·obtain ⟨o,es,ep,ho,r⟩:=hm;exact ⟨o,es,ep,ks _ o (fun z=>(hf _ z).2.1 rfl) ho,r⟩
   ·refine (I.hok b u e).jQ (fun c v hc' q=>?_) (fun _ q=>q) fun _ _ q=>q;rcases hc' with rfl | hc'
    ·exact ks _ _ (nd _ _ e) q
    ·exact ks _ _ (nd c _ hc') q
 self:=fun A i s Q E st h=>wpAny_pyIter_zip st.1 h
noncomputable def FX (K:Fg) (t:TA):TI:=fun σ H R=>t σ H fun vs H1=>∃ a b xs ys,vs=[.ref a,.ref b]/\SqL K H1 a xs/\SqL K H1 b ys/\R (Itz K a b xs ys) H1
theorem AN {X:Cx} {elts:List Expr} {c:Nat} {pt p pos:Pos} {ea eb:Expr} {t:TA} (hg:Gl X "zip") (hm:X.mg "zip" = none) (hv:bootBuiltins "zip" = some (.type "zip")) (ha:PA X [ea,eb] t)
  (he:starEach [ea,eb] X.env=(false,eval ea X.env) :: starEach [eb] X.env) (hpl:(backTo pos (starEach [eb] X.env)).any (·.1)=false):PI X (.Tuple elts c pt) (.Call (.Name "zip" p) [ea,eb] [] pos) (FX X.K t):=by
 intro pins s σ H R I h;refine Lv (hG I hg hm hv ?_ (by decide) (by decide));refine PyProof.Rows.callWith_type1 (thn (ha pos pins s σ H _ I h) fun us s1 ⟨vs,H1,I1,r1,a,b,xs,ys,ev,q1,q2,q⟩=>?_) he hpl;subst ev;cases r1 with
 | cons ra r1 =>
 cases r1 with
 | cons rb r1 =>
 cases r1;have ra:_=Value.ref a:=ra;have rb:_=Value.ref b:=rb;subst ra rb;obtain ⟨its,v1,p1,_⟩:=I1.list q1;obtain ⟨its2,v2,p2,_⟩:=I1.list q2;have l1:a < s1.heap.objs.size:=by obtain ⟨_,e,_⟩:=p1.isList;exact Jc e
 have l2:b < s1.heap.objs.size:=by obtain ⟨_,e,_⟩:=p2.isList;exact Jc e
 refine call_zip_2 p1.isList p2.isList fun h' hz hTI hTO hi1 hi2 hsz hk=>?_;refine wpAny_pyIter_zip hz ⟨s1.heap.objs.size+4,[s1.heap.objs.size+4,s1.heap.objs.size+2,s1.heap.objs.size+3,s1.heap.objs.size,s1.heap.objs.size+1],_,_,H1,rfl,I1.kept (t':=s1.toks) hk,uG a b _ _ _ _ _ xs ys (zipApart_new l1 l2),⟨hz,hTI,⟨_,_,hTO⟩,hi1,hi2⟩,fun c hc=>?_,q⟩;have hb:s1.heap.objs.size<=c:=by
  simp only [Jb,KH,K4] at hc;rcases hc with rfl | rfl | rfl | rfl | rfl
  ·exact Nat.le_add_right _ _
  ·exact Nat.le_add_right _ _
  ·exact Nat.le_add_right _ _
  ·exact IY _
  ·exact Nat.le_add_right _ _
 exact I1.z5 hb (I1.hok.fresh hb)
end L2
end
section
namespace L2
open PySem
noncomputable def HE (K:Fg) (a:Addr) (xs:List V):Prop:=∃ (o:Obj) (its:Array Value) (n:Nat),K.lookup a=some o/\o.cls=.type "list" /\ o.dict=none/\o.data=.seq its n/\its.size<=sizeLine/\Vals xs its.toList
noncomputable def LsF (K:Fg) (F:Addr->Prop) (H:Hp) (a:Addr) (xs:List V):Prop:=(¬F a/\Rd H a (.lst xs))\/HE K a xs
mutual
noncomputable def Dm (K:Fg) (F:Addr->Prop) (H:Hp):PyData->V->Prop
 | .none,v=>v=.non
 | .bool b,v=>v=.bl b
 | .int i,v=>v=.int i
 | .str x,v=>v=.str x/\x.length<=sizeLine/\PyData.strOk x=true
 | .list ds,v=>∃ a xs,v=.ref a/\LsF K F H a xs/\xs.length<=sizeLine/\DmL K F H ds xs
 | .tuple ds,v=>∃ a xs,v=.ref a/\SqT K H a xs/\xs.length<=sizeLine/\DmL K F H ds xs
 | .dict kvs,v=>∃ a ep xs,v=.ref a/\¬F a/\H a=some (.dD ep xs)/\xs.length<=sizeLine/\DmP K F H kvs xs
noncomputable def DmL (K:Fg) (F:Addr->Prop) (H:Hp):List PyData->List V->Prop
 | [],vs=>vs=[]
 | d :: ds,vs=>∃ v r,vs=v :: r/\Dm K F H d v/\DmL K F H ds r
noncomputable def DmP (K:Fg) (F:Addr->Prop) (H:Hp):List (PyData×PyData)->List (PyData×V×V)->Prop
 | [],vs=>vs=[]
 | (k,d) :: ds,vs=>∃ j v r,vs=(k,j,v) :: r/\hk6 k=true/\Dm K F H k j/\Dm K F H d v/\DmP K F H ds r
end
noncomputable def Wr:HO->Bool | .lst _=>true | .dD _ _=>true | _=>false
noncomputable def Pr (F:Addr->Prop) (H H':Hp):Prop:=∀ b o,H b=some o->(¬F b\/Wr o=false)->H' b=some o
section
variable {K:PySem.W.Frag} {F F':Addr->Prop} {H H':Hp}
theorem SqT.pr {a:Addr} {xs:List V} (p:Pr F H H') (h:SqT K H a xs):SqT K H' a xs:=by
 rcases h with (h | ⟨o,h⟩) | h
 ·exact .inl (.inl (p _ _ h (.inr rfl)))
 ·exact .inl (.inr ⟨o,p _ _ h (.inr rfl)⟩)
 ·exact .inr h
theorem LsF.pr {a:Addr} {xs:List V} (p:Pr F H H') (hf:∀ b,F' b->F b) (h:LsF K F H a xs):LsF K F' H' a xs:=by
 rcases h with ⟨n,h | ⟨o,h⟩⟩ | h
 ·exact .inl ⟨fun z=>n (hf _ z),.inl (p _ _ h (.inl n))⟩
 ·exact .inl ⟨fun z=>n (hf _ z),.inr ⟨o,p _ _ h (.inl n)⟩⟩
 ·exact .inr h
mutual
theorem Dm.pr (p:Pr F H H') (hf:∀ b,F' b->F b):∀ {d:PyData} {v:V},Dm K F H d v->Dm K F' H' d v
 | .none,v,h=>h
 | .bool b,v,h=>h
 | .int i,v,h=>h
 | .str x,v,h=>h
 | .list ds,v,h=>by
  obtain ⟨a,xs,e,l,z,r⟩:=h;exact ⟨a,xs,e,l.pr p hf,z,DmL.pr p hf r⟩
 | .tuple ds,v,h=>by
  obtain ⟨a,xs,e,l,z,r⟩:=h;exact ⟨a,xs,e,l.pr p,z,DmL.pr p hf r⟩
 | .dict kvs,v,h=>by
  obtain ⟨a,ep,xs,e,n,l,z,r⟩:=h;exact ⟨a,ep,xs,e,fun q=>n (hf _ q),p _ _ l (.inl n),z,DmP.pr p hf r⟩
theorem DmL.pr (p:Pr F H H') (hf:∀ b,F' b->F b):∀ {ds:List PyData} {vs:List V},DmL K F H ds vs->DmL K F' H' ds vs
 | [],vs,h=>h
 | d :: ds,vs,h=>by
  obtain ⟨v,r,e,h1,h2⟩:=h;exact ⟨v,r,e,Dm.pr p hf h1,DmL.pr p hf h2⟩
theorem DmP.pr (p:Pr F H H') (hf:∀ b,F' b->F b):∀ {ds:List (PyData×PyData)} {vs:List (PyData×V×V)},DmP K F H ds vs->DmP K F' H' ds vs
 | [],vs,h=>h
 | (k,d) :: ds,vs,h=>by
  obtain ⟨j,v,r,e,e2,h0,h1,h2⟩:=h;exact ⟨j,v,r,e,e2,Dm.pr p hf h0,Dm.pr p hf h1,DmP.pr p hf h2⟩
end
theorem LsF.fresh {a c:Addr} {xs:List V} (hc:H c=none) (h:LsF K F H a xs):LsF K (fun b=>F b\/b=c) H a xs:=by
 rcases h with ⟨n,h⟩ | h
 ·refine .inl ⟨fun z=>z.elim n fun e=>?_,h⟩;subst e;rcases h with h | ⟨o,h⟩ <;> (rw [hc] at h;cases h)
 ·exact .inr h
mutual
theorem Dm.fresh {c:Addr} (hc:H c=none):∀ {d:PyData} {v:V},Dm K F H d v->Dm K (fun b=>F b\/b=c) H d v
 | .none,v,h=>h
 | .bool b,v,h=>h
 | .int i,v,h=>h
 | .str x,v,h=>h
 | .list ds,v,h=>by
  obtain ⟨a,xs,e,l,z,r⟩:=h;exact ⟨a,xs,e,l.fresh hc,z,DmL.fresh hc r⟩
 | .tuple ds,v,h=>by
  obtain ⟨a,xs,e,l,z,r⟩:=h;exact ⟨a,xs,e,l,z,DmL.fresh hc r⟩
 | .dict kvs,v,h=>by
  obtain ⟨a,ep,xs,e,n,l,z,r⟩:=h;exact ⟨a,ep,xs,e,fun q=>q.elim n fun q=>(by subst q;rw [hc] at l;cases l),l,z,DmP.fresh hc r⟩
theorem DmL.fresh {c:Addr} (hc:H c=none):∀ {ds:List PyData} {vs:List V},DmL K F H ds vs->DmL K (fun b=>F b\/b=c) H ds vs
 | [],vs,h=>h
 | d :: ds,vs,h=>by
  obtain ⟨v,r,e,h1,h2⟩:=h;exact ⟨v,r,e,Dm.fresh hc h1,DmL.fresh hc h2⟩
theorem DmP.fresh {c:Addr} (hc:H c=none):∀ {ds:List (PyData×PyData)} {vs:List (PyData×V×V)},DmP K F H ds vs->DmP K (fun b=>F b\/b=c) H ds vs
 | [],vs,h=>h
 | (k,d) :: ds,vs,h=>by
  obtain ⟨j,v,r,e,e2,h0,h1,h2⟩:=h;exact ⟨j,v,r,e,e2,Dm.fresh hc h0,Dm.fresh hc h1,DmP.fresh hc h2⟩
end
theorem Pr.refl:Pr F H H:=fun _ _ h _=>h
theorem Pr.trans {H1 H2:Hp} (a:Pr F H H1) (b:Pr F' H1 H2) (hf:∀ b,F' b->F b):Pr F H H2:=fun c o h n=>b c o (a c o h n) (n.imp (fun z q=>z (hf _ q)) id)
theorem Pr.of_same (a:aw H H'):Pr F H H':=fun c o h _=>a c o h
theorem Dm.mono (hf:∀ b,F' b->F b) {d:PyData} {v:V} (h:Dm K F H d v):Dm K F' H d v:=h.pr Pr.refl hf
theorem DmL.mono (hf:∀ b,F' b->F b) {d:List PyData} {v:List V} (h:DmL K F H d v):DmL K F' H d v:=h.pr Pr.refl hf
theorem DmL.len:∀ {ds:List PyData} {vs:List V},DmL K F H ds vs->vs.length=ds.length
 | [],vs,h=>by rw [show vs=[] from h];rfl
 | d :: ds,vs,h=>by
  obtain ⟨v,r,e,h1,h2⟩:=h;rw [e,Jf,Jf,DmL.len h2]
theorem DmL.get:∀ {ds:List PyData} {vs:List V} {i:Nat} {d:PyData},DmL K F H ds vs->ds[i]?=some d->∃ v,vs[i]?=some v/\Dm K F H d v
 | [],vs,_,_,h,e=>by simp at e
 | d :: ds,vs,0,d',h,e=>by
  obtain ⟨v,r,e1,h1,h2⟩:=h;simp at e;subst e;subst e1;exact ⟨v,rfl,h1⟩
 | d :: ds,vs,i+1,d',h,e=>by
  obtain ⟨v,r,e1,h1,h2⟩:=h;subst e1;obtain ⟨w,q1,q2⟩:=DmL.get (i:=i) h2 (by simpa using e);exact ⟨w,by simpa using q1,q2⟩
theorem DmL.get' {ds:List PyData} {vs:List V} {i:Nat} {v:V} (h:DmL K F H ds vs) (e:vs[i]?=some v):∃ d,ds[i]?=some d/\Dm K F H d v:=by
 have hl:=h.len;have hi:i < vs.length:=(IK.mp e).1;have hd:ds[i]?=some (ds[i]'(by omega)):=IG _;obtain ⟨w,e2,q⟩:=h.get hd;rw [e] at e2;cases e2;exact ⟨_,hd,q⟩
theorem DmL.app:∀ {ds es:List PyData} {vs ws:List V},DmL K F H ds vs->DmL K F H es ws->DmL K F H (ds++es) (vs++ws)
 | [],es,vs,ws,h,q=>by rw [show vs=[] from h];exact q
 | d :: ds,es,vs,ws,h,q=>by
  obtain ⟨v,r,e,h1,h2⟩:=h;subst e;exact ⟨v,r++ws,rfl,h1,DmL.app h2 q⟩
theorem DmL.snoc {ds:List PyData} {vs:List V} {d:PyData} {v:V} (h:DmL K F H ds vs) (q:Dm K F H d v):DmL K F H (ds++[d]) (vs++[v]):=h.app ⟨v,[],rfl,q,rfl⟩
noncomputable def Top (K:PySem.W.Frag) (F:Addr->Prop) (H:Hp):PyData->Addr->Prop
 | .list ds,a=>∃ xs,H a=some (.lst xs)/\xs.length<=sizeLine/\DmL K F H ds xs
 | .dict kvs,a=>∃ ep xs,H a=some (.dD ep xs)/\xs.length<=sizeLine/\DmP K F H kvs xs
 | _,_=>False
noncomputable def oR (K:PySem.W.Frag) (F:Addr->Prop) (H:Hp):PyData->Addr->Prop
 | .list ds,a=>∃ xs,SqL K H a xs/\xs.length<=sizeLine/\DmL K F H ds xs
 | .dict kvs,a=>∃ ep xs,H a=some (.dD ep xs)/\xs.length<=sizeLine/\DmP K F H kvs xs
 | _,_=>False
noncomputable def Vw (K:PySem.W.Frag) (F:Addr->Prop) (H:Hp):PyData->V->Prop
 | .list ds,v=>∃ a,v=.ref a/\oR K F H (.list ds) a
 | .dict ds,v=>∃ a,v=.ref a/\oR K F H (.dict ds) a
 | d,v=>Dm K F H d v
theorem Top.r {d:PyData} {a:Addr} (h:Top K F H d a):oR K F H d a:=by
 cases d with
 | list ds=>obtain ⟨xs,e,z,r⟩:=h;exact ⟨xs,.inl (.inl e),z,r⟩
 | dict ds=>exact h
 | _=>exact h
theorem oR.vw {d:PyData} {a:Addr} (h:oR K F H d a):Vw K F H d (.ref a):=by
 cases d with
 | list ds=>exact ⟨a,rfl,h⟩
 | dict ds=>exact ⟨a,rfl,h⟩
 | _=>exact absurd h id
theorem Dm.vw {d:PyData} {v:V} (h:Dm K F H d v):Vw K F H d v:=by
 cases d with
 | list ds =>
  obtain ⟨a,xs,e,l,z,r⟩:=h;refine ⟨a,e,xs,?_,z,r⟩;rcases l with ⟨n,l⟩ | l
  ·exact .inl l
  ·exact .inr l
 | dict ds=>obtain ⟨a,ep,xs,e,n,l,z,r⟩:=h;exact ⟨a,e,ep,xs,l,z,r⟩
 | _=>exact h
theorem Top.dm {d:PyData} {a:Addr} (h:Top K F H d a) (n:¬F a):Dm K F H d (.ref a):=by
 cases d with
 | list ds=>obtain ⟨xs,e,z,r⟩:=h;exact ⟨a,xs,rfl,.inl ⟨n,.inl e⟩,z,r⟩
 | dict ds=>obtain ⟨ep,xs,e,z,r⟩:=h;exact ⟨a,ep,xs,rfl,n,e,z,r⟩
 | _=>exact absurd h id
theorem Top.wr {d:PyData} {a:Addr} (h:Top K F H d a):∃ o,H a=some o/\Wr o=true:=by
 cases d with
 | list ds=>obtain ⟨xs,e,_⟩:=h;exact ⟨_,e,rfl⟩
 | dict ds=>obtain ⟨ep,xs,e,_⟩:=h;exact ⟨_,e,rfl⟩
 | _=>exact absurd h id
theorem Top.pr {d:PyData} {a:Addr} (h:Top K F H d a) (p:Pr F H H') (hf:∀ b,F' b->F b) (ha:∀ o,H a=some o->H' a=some o):Top K F' H' d a:=by
 cases d with
 | list ds=>obtain ⟨xs,e,z,r⟩:=h;exact ⟨xs,ha _ e,z,r.pr p hf⟩
 | dict ds=>obtain ⟨ep,xs,e,z,r⟩:=h;exact ⟨ep,xs,ha _ e,z,r.pr p hf⟩
 | _=>exact absurd h id
theorem oR.pr {d:PyData} {a:Addr} (h:oR K F H d a) (p:Pr F H H') (hf:∀ b,F' b->F b) (ha:∀ o,H a=some o->H' a=some o):oR K F' H' d a:=by
 cases d with
 | list ds =>
  obtain ⟨xs,e,z,r⟩:=h;refine ⟨xs,?_,z,r.pr p hf⟩;rcases e with (e | ⟨o,e⟩) | e
  ·exact .inl (.inl (ha _ e))
  ·exact .inl (.inr ⟨o,ha _ e⟩)
  ·exact .inr e
 | dict ds=>obtain ⟨ep,xs,e,z,r⟩:=h;exact ⟨ep,xs,ha _ e,z,r.pr p hf⟩
 | _=>exact absurd h id
theorem Top.fresh {d:PyData} {a c:Addr} (hc:H c=none) (h:Top K F H d a):Top K (fun b=>F b\/b=c) H d a:=by
 cases d with
 | list ds=>obtain ⟨xs,e,z,r⟩:=h;exact ⟨xs,e,z,r.fresh hc⟩
 | dict ds=>obtain ⟨ep,xs,e,z,r⟩:=h;exact ⟨ep,xs,e,z,r.fresh hc⟩
 | _=>exact absurd h id
end
end L2
end
section
namespace L2
open PySem
noncomputable def HH (K:Fg) (tl:TE):TI:=fun σ H R=>tK K tl σ H R\/C5 K tl σ H R
inductive Sl where | un | dat (d:PyData) | own (d:PyData) | ino (d:PyData) | ro (d:PyData)
noncomputable abbrev En:=List Sl
inductive RV where | dat (d:PyData) | bor (i:Nat) | frs (d:PyData)
inductive PR where | dat (d:PyData) | frs (d:PyData)
inductive AV where | dat (d:PyData) | bor (i:Nat)
inductive PM where | dat | bor | ino
noncomputable def PR.rv:PR->RV | .dat d=>.dat d | .frs d=>.frs d
noncomputable def RV.av:RV->AV | .dat d=>.dat d | .frs d=>.dat d | .bor i=>.bor i
structure Fn where
 ms:List PM
 F:List PyData->Option (PR×List PyData)
noncomputable def cont (env:En) (i:Nat):Option PyData:=match env[i]? with | some (.own d)=>some d | some (.ino d)=>some d | some (.ro d)=>some d | _=>none
noncomputable def az (env:En) (i:Nat):Option PyData:=match env[i]? with | some (.own d)=>some d | some (.ino d)=>some d | _=>none
noncomputable def dQ (env:En) (i:Nat) (d:PyData):En:=match env[i]? with | some (.own _)=>env.set i (.own d) | some (.ino _)=>env.set i (.ino d) | _=>env
noncomputable def AV.view (env:En):AV->Option PyData | .dat d=>some d | .bor i=>cont env i
noncomputable def RV.view (env:En) (r:RV):Option PyData:=r.av.view env
noncomputable def mu (env:En) (i:Nat):Prop:=∃ d,env[i]?=some (.own d)\/env[i]?=some (.ino d)
noncomputable def IA (env:En) (σ:St) (b:Addr):Prop:=∃ i,mu env i/\σ[i]?=some (some (.ref b))
noncomputable def FF (F0:Addr->Prop) (env:En) (σ:St) (b:Addr):Prop:=F0 b\/∃ (i:Nat) (d:PyData),env[i]?=some (.own d)/\σ[i]?=some (some (.ref b))
noncomputable def df (K:Fg) (F I:Addr->Prop) (H:Hp):PyData->Addr->Prop
 | .list ds,a=>∃ xs,LsF K I H a xs/\xs.length<=sizeLine/\DmL K F H ds xs
 | .dict kvs,a=>∃ ep xs,¬I a/\H a=some (.dD ep xs)/\xs.length<=sizeLine/\DmP K F H kvs xs
 | _,_=>False
structure Rel (K:Fg) (F0:Addr->Prop) (H₀:Hp) (I:Addr->Prop) (env:En) (σ:St) (H:Hp):Prop where
 len:env.length=σ.length
 dat:∀ (i:Nat) (d:PyData),env[i]?=some (.dat d)->∃ v,σ[i]?=some (some v)/\Dm K (FF F0 env σ) H d v
 own:∀ (i:Nat) (d:PyData),env[i]?=some (.own d)->∃ a,σ[i]?=some (some (.ref a))/\¬F0 a/\(H₀ a=none\/I a)/\Top K (FF F0 env σ) H d a
 ino:∀ (i:Nat) (d:PyData),env[i]?=some (.ino d)->∃ a,σ[i]?=some (some (.ref a))/\F0 a/\I a/\Top K (FF F0 env σ) H d a
 ro:∀ (i:Nat) (d:PyData),env[i]?=some (.ro d)->∃ a,σ[i]?=some (some (.ref a))/\df K (FF F0 env σ) (IA env σ) H d a
 sep:∀ i j a,mu env i->mu env j->σ[i]?=some (some (.ref a))->σ[j]?=some (some (.ref a))->i=j
 dom:∀ b,F0 b->H b≠none
 b8:∀ b o,H₀ b=some o->¬I b->H b=some o
section
variable {K:Fg} {F F' I I' F0:Addr->Prop} {H H' H₀:Hp} {env env':En} {σ σ':St}
theorem df.r {d:PyData} {a:Addr} (h:df K F I H d a):oR K F H d a:=by
 cases d with
 | list ds =>
  obtain ⟨xs,l,z,r⟩:=h;exact ⟨xs,l.elim (fun q=>.inl q.2) .inr,z,r⟩
 | dict ds=>obtain ⟨ep,xs,n,l,z,r⟩:=h;exact ⟨ep,xs,l,z,r⟩
 | _=>exact absurd h id
theorem df.pr {d:PyData} {a:Addr} (h:df K F I H d a) (p:Pr F H H') (hf:∀ b,F' b->F b) (hi:∀ b,I' b->I b) (k:∀ b o,H b=some o->¬I b->H' b=some o):df K F' I' H' d a:=by
 cases d with
 | list ds =>
  obtain ⟨xs,l,z,r⟩:=h;refine ⟨xs,?_,z,r.pr p hf⟩;rcases l with ⟨n,l | ⟨o,l⟩⟩ | l
  ·exact .inl ⟨fun q=>n (hi _ q),.inl (k _ _ l n)⟩
  ·exact .inl ⟨fun q=>n (hi _ q),.inr ⟨o,k _ _ l n⟩⟩
  ·exact .inr l
 | dict ds=>obtain ⟨ep,xs,n,l,z,r⟩:=h;exact ⟨ep,xs,fun q=>n (hi _ q),k _ _ l n,z,r.pr p hf⟩
 | _=>exact absurd h id
theorem df.fresh {d:PyData} {a c:Addr} (hc:H c=none) (h:df K F I H d a):df K (fun b=>F b\/b=c) I H d a:=by
 cases d with
 | list ds=>obtain ⟨xs,e,z,r⟩:=h;exact ⟨xs,e,z,r.fresh hc⟩
 | dict ds=>obtain ⟨ep,xs,n,e,z,r⟩:=h;exact ⟨ep,xs,n,e,z,r.fresh hc⟩
 | _=>exact absurd h id
theorem Dm.ro {d:PyData} {v:V} (h:Dm K F H d v) (hi:∀ b,I b->F b) (l:(∃ ds,d=.list ds)\/∃ ds,d=.dict ds):∃ a,v=.ref a/\df K F I H d a:=by
 rcases l with ⟨ds,rfl⟩ | ⟨ds,rfl⟩
 ·obtain ⟨a,xs,e,l,z,r⟩:=h;exact ⟨a,e,xs,l.elim (fun q=>.inl ⟨fun z=>q.1 (hi _ z),q.2⟩) .inr,z,r⟩
 ·obtain ⟨a,ep,xs,e,n,l,z,r⟩:=h;exact ⟨a,e,ep,xs,fun q=>n (hi _ q),l,z,r⟩
theorem Top.ro {d:PyData} {a:Addr} (h:Top K F H d a) (n:¬I a):df K F I H d a:=by
 cases d with
 | list ds=>obtain ⟨xs,e,z,r⟩:=h;exact ⟨xs,.inl ⟨n,.inl e⟩,z,r⟩
 | dict ds=>obtain ⟨ep,xs,e,z,r⟩:=h;exact ⟨ep,xs,n,e,z,r⟩
 | _=>exact absurd h id
theorem Rel.ia (R:Rel K F0 H₀ I env σ H) {b:Addr} (h:IA env σ b):FF F0 env σ b:=by
 obtain ⟨i,⟨d,e | e⟩,s⟩:=h
 ·exact .inr ⟨i,d,e,s⟩
 ·obtain ⟨a,s',f,_⟩:=R.ino i d e;rw [s] at s';cases s';exact .inl f
theorem Rel.iaT (R:Rel K F0 H₀ I env σ H) {b:Addr} (h:IA env σ b):∃ o,H b=some o/\Wr o=true:=by
 obtain ⟨i,⟨d,e | e⟩,s⟩:=h
 ·obtain ⟨a,s',_,_,t⟩:=R.own i d e;rw [s] at s';cases s';exact t.wr
 ·obtain ⟨a,s',_,_,t⟩:=R.ino i d e;rw [s] at s';cases s';exact t.wr
theorem Rel.iaI (R:Rel K F0 H₀ I env σ H) {b:Addr} (h:IA env σ b):H₀ b=none\/I b:=by
 obtain ⟨i,⟨d,e | e⟩,s⟩:=h
 ·obtain ⟨a,s',_,q,t⟩:=R.own i d e;rw [s] at s';cases s';exact q
 ·obtain ⟨a,s',_,q,t⟩:=R.ino i d e;rw [s] at s';cases s';exact .inr q
theorem Rel.cN (R:Rel K F0 H₀ I env σ H) {b:Addr} (h:FF F0 env σ b):H b≠none:=by
 rcases h with h | ⟨i,d,e,s⟩
 ·exact R.dom b h
 ·obtain ⟨o,q,_⟩:=R.iaT ⟨i,⟨d,.inl e⟩,s⟩;rw [q];exact nofun
theorem Rel.mR (R:Rel K F0 H₀ I env σ H) (k:∀ b o,H b=some o->¬IA env σ b->H' b=some o):Pr (FF F0 env σ) H H':=fun b o h n=>k b o h fun q=>by
 rcases n with n | n
 ·exact n (R.ia q)
 ·obtain ⟨o',h',w⟩:=R.iaT q;rw [h] at h';cases h';rw [n] at w;cases w
theorem Rel.rebase (R:Rel K F0 H₀ I env σ H):Rel K F0 H (IA env σ) env σ H :=
 ⟨R.len,R.dat,fun i d e=>let ⟨a,s,n,_,t⟩:=R.own i d e;⟨a,s,n,.inr ⟨i,⟨d,.inl e⟩,s⟩,t⟩,fun i d e=>let ⟨a,s,n,_,t⟩:=R.ino i d e;⟨a,s,n,⟨i,⟨d,.inr e⟩,s⟩,t⟩,R.ro,R.sep,R.dom,fun _ _ h _=>h⟩
theorem Rel.oi (R:Rel K F0 H₀ I env σ H) {a:Addr} (h:H a=none\/IA env σ a):H₀ a=none\/I a:=by
 rcases h with h | h
 ·cases e:H₀ a with
  | none=>exact .inl rfl
  | some o =>
   by_cases z:I a
   ·exact .inr z
   ·have:=R.b8 a o e z;rw [h] at this;cases this
 ·exact R.iaI h
theorem Rel.aK (R:Rel K F0 H₀ I env σ H) (S:Rel K F0 H (IA env σ) env' σ' H'):Rel K F0 H₀ I env' σ' H':=by
 refine ⟨S.len,S.dat,fun i d e=>?_,fun i d e=>?_,S.ro,S.sep,S.dom,fun b o h n=>?_⟩
 ·obtain ⟨a,s,n,q,t⟩:=S.own i d e;exact ⟨a,s,n,R.oi q,t⟩
 ·obtain ⟨a,s,n,q,t⟩:=S.ino i d e;refine ⟨a,s,n,?_,t⟩;obtain ⟨j,⟨d',e' | e'⟩,s'⟩:=q
  ·obtain ⟨a',s2,n',_⟩:=R.own j d' e';rw [s'] at s2;cases s2;exact absurd n n'
  ·obtain ⟨a',s2,_,n',_⟩:=R.ino j d' e';rw [s'] at s2;cases s2;exact n'
 ·refine S.b8 b o (R.b8 b o h n) fun q=>?_;rcases R.iaI q with z | z
  ·rw [h] at z;cases z
  ·exact n z
noncomputable def Evo:Sl->Sl->Prop
 | .un,s=>s=.un
 | .dat d,s=>s=.dat d
 | .own _,s=>(∃ d,s=.own d)\/(∃ d,s=.dat d)\/s=.un
 | .ino _,s=>∃ d,s=.ino d
 | .ro d,s=>s=.ro d
noncomputable def KpE (env env':En):Prop:=env'.length=env.length/\∀ (i:Nat) (s:Sl),env[i]?=some s->∃ s',env'[i]?=some s'/\Evo s s'
theorem Evo.refl:∀ s,Evo s s
 | .un=>rfl
 | .dat _=>rfl
 | .own d=>.inl ⟨d,rfl⟩
 | .ino d=>⟨d,rfl⟩
 | .ro _=>rfl
theorem Evo.trans:∀ {a b c:Sl},Evo a b->Evo b c->Evo a c
 | .un,b,c,h,q=>by rw [show b=.un from h] at q;exact q
 | .dat d,b,c,h,q=>by rw [show b=.dat d from h] at q;exact q
 | .own d,b,c,h,q=>by
  rcases h with ⟨d,rfl⟩ | ⟨d,rfl⟩ | rfl
  ·exact q
  ·exact .inr (.inl ⟨d,q⟩)
  ·exact .inr (.inr q)
 | .ino d,b,c,h,q=>by obtain ⟨d,rfl⟩:=h;exact q
 | .ro d,b,c,h,q=>by rw [show b=.ro d from h] at q;exact q
theorem KpE.refl (env:En):KpE env env:=⟨rfl,fun i s e=>⟨s,e,.refl s⟩⟩
theorem KpE.trans {e1 e2 e3:En} (a:KpE e1 e2) (b:KpE e2 e3):KpE e1 e3:=⟨b.1.trans a.1,fun i s e=>by
 obtain ⟨s1,h1,v1⟩:=a.2 i s e;obtain ⟨s2,h2,v2⟩:=b.2 i s1 h1
 exact ⟨s2,h2,v1.trans v2⟩⟩
theorem KpE.back (k:KpE env env') {i:Nat} {s':Sl} (e:env'[i]?=some s'):∃ s,env[i]?=some s/\Evo s s':=by
 have hi:i < env'.length:=(IK.mp e).1;have:env[i]?=some (env[i]'(by rw [<- k.1];exact hi)):=IG _;obtain ⟨s2,h2,v⟩:=k.2 i _ this;rw [e] at h2;cases h2;exact ⟨_,this,v⟩
theorem KpE.own (k:KpE env env') {i:Nat} {d:PyData} (e:env'[i]?=some (.own d)):∃ d',env[i]?=some (.own d'):=by
 obtain ⟨s,h,v⟩:=k.back e;cases s with
 | un=>cases v
 | dat _=>cases v
 | own d'=>exact ⟨d',h⟩
 | ino _=>obtain ⟨_,v⟩:=v;cases v
 | ro _=>cases v
theorem KpE.ff (k:KpE env env') {b:Addr} (h:FF F0 env' σ b):FF F0 env σ b:=by
 rcases h with h | ⟨i,d,e,s⟩
 ·exact .inl h
 ·obtain ⟨d',e'⟩:=k.own e;exact .inr ⟨i,d',e',s⟩
theorem KpE.mu (k:KpE env env') {i:Nat} (h:mu env' i):mu env i:=by
 obtain ⟨d,h | h⟩:=h
 ·obtain ⟨d',e⟩:=k.own h;exact ⟨d',.inl e⟩
 ·obtain ⟨s,h,v⟩:=k.back h;cases s with
  | un=>cases v
  | dat _=>cases v
  | own d'=>rcases v with ⟨_,v⟩ | ⟨_,v⟩ | v <;> cases v
  | ino d'=>exact ⟨d',.inr h⟩
  | ro _=>cases v
theorem KpE.ia (k:KpE env env') {b:Addr} (h:IA env' σ b):IA env σ b:=let ⟨i,m,s⟩:=h;⟨i,k.mu m,s⟩
theorem Rel.mF (R:Rel K F0 H₀ I env σ H) (S:Rel K F0 H (IA env σ) env' σ H') (k:KpE env env') {d:PyData} {v:V} (h:Dm K (FF F0 env σ) H d v):Dm K (FF F0 env' σ) H' d v :=
 h.pr (R.mR fun b o e n=>S.b8 b o e n) fun _ z=>k.ff z
theorem Rel.same (R:Rel K F0 H₀ I env σ H) (s:aw H H'):Rel K F0 H₀ I env σ H':=by
 have p:Pr (FF F0 env σ) H H':=Pr.of_same s;refine ⟨R.len,fun i d e=>?_,fun i d e=>?_,fun i d e=>?_,fun i d e=>?_,R.sep,fun b h=>?_,fun b o h n=>s _ _ (R.b8 b o h n)⟩
 ·obtain ⟨v,q,r⟩:=R.dat i d e;exact ⟨v,q,r.pr p fun _ z=>z⟩
 ·obtain ⟨a,q,n,w,t⟩:=R.own i d e;exact ⟨a,q,n,w,t.pr p (fun _ z=>z) (fun o z=>s _ _ z)⟩
 ·obtain ⟨a,q,n,w,t⟩:=R.ino i d e;exact ⟨a,q,n,w,t.pr p (fun _ z=>z) (fun o z=>s _ _ z)⟩
 ·obtain ⟨a,q,t⟩:=R.ro i d e;exact ⟨a,q,t.pr p (fun _ z=>z) (fun _ z=>z) (fun b o z _=>s _ _ z)⟩
 ·cases e:H b with
  | none=>exact absurd e (R.dom b h)
  | some o=>rw [s _ _ e];exact nofun
theorem dO {c:Addr}:FF (fun b=>F0 b\/b=c) env σ=fun b=>FF F0 env σ b\/b=c:=by
 funext b;apply propext;constructor
 ·rintro ((h | h) | h)
  ·exact .inl (.inl h)
  ·exact .inr h
  ·exact .inl (.inr h)
 ·rintro ((h | h) | h)
  ·exact .inl (.inl h)
  ·exact .inr h
  ·exact .inl (.inr h)
theorem Rel.fresh (R:Rel K F0 H₀ I env σ H) {c:Addr} (hc:H c=none) {H':Hp} (s:aw H H') (hc':H' c≠none):Rel K (fun b=>F0 b\/b=c) H₀ I env σ H':=by
 have p:Pr (fun b=>FF F0 env σ b\/b=c) H H':=Pr.of_same s;have na:∀ i a,mu env i->σ[i]?=some (some (.ref a))->a≠c:=fun i a m q z=>by
  obtain ⟨o,h,_⟩:=R.iaT ⟨i,m,q⟩;rw [z,hc] at h;cases h
 refine ⟨R.len,fun i d e=>?_,fun i d e=>?_,fun i d e=>?_,fun i d e=>?_,R.sep,fun b h=>?_,fun b o h n=>s _ _ (R.b8 b o h n)⟩
 ·obtain ⟨v,q,r⟩:=R.dat i d e;rw [dO];exact ⟨v,q,(r.fresh hc).pr p fun _ z=>z⟩
 ·obtain ⟨a,q,n,w,t⟩:=R.own i d e;rw [dO];exact ⟨a,q,fun z=>z.elim n (na i a ⟨d,.inl e⟩ q),w,(t.fresh hc).pr p (fun _ z=>z) (fun o z=>s _ _ z)⟩
 ·obtain ⟨a,q,n,w,t⟩:=R.ino i d e;rw [dO];exact ⟨a,q,.inl n,w,(t.fresh hc).pr p (fun _ z=>z) (fun o z=>s _ _ z)⟩
 ·obtain ⟨a,q,t⟩:=R.ro i d e;rw [dO];exact ⟨a,q,(t.fresh hc).pr p (fun _ z=>z) (fun _ z=>z) (fun b o z _=>s _ _ z)⟩
 ·rcases h with h | h
  ·cases e:H b with
   | none=>exact absurd e (R.dom b h)
   | some o=>rw [s _ _ e];exact nofun
  ·rw [h];exact hc'
theorem Rel.less {c:Addr} (R:Rel K (fun b=>F0 b\/b=c) H₀ I env σ H) (hi:∀ (i:Nat) (d:PyData),env[i]?=some (.ino d)->σ[i]?≠some (some (.ref c))):Rel K F0 H₀ I env σ H:=by
 have hf:∀ b,FF F0 env σ b->FF (fun b=>F0 b\/b=c) env σ b:=fun b z=>by rw [dO];exact .inl z
 refine ⟨R.len,fun i d e=>?_,fun i d e=>?_,fun i d e=>?_,fun i d e=>?_,R.sep,fun b h=>R.dom b (.inl h),R.b8⟩
 ·obtain ⟨v,q,r⟩:=R.dat i d e;exact ⟨v,q,r.mono hf⟩
 ·obtain ⟨a,q,n,w,t⟩:=R.own i d e;exact ⟨a,q,fun z=>n (.inl z),w,t.pr Pr.refl hf fun _ z=>z⟩
 ·obtain ⟨a,q,n,w,t⟩:=R.ino i d e;refine ⟨a,q,?_,w,t.pr Pr.refl hf fun _ z=>z⟩;rcases n with n | n
  ·exact n
  ·exact absurd (n▸q) (hi i d e)
 ·obtain ⟨a,q,t⟩:=R.ro i d e;exact ⟨a,q,t.pr Pr.refl hf (fun _ z=>z) fun _ _ z _=>z⟩
end
end L2
end
section
namespace L2
open PySem
noncomputable def wA (K:Fg) (F:Addr->Prop) (H H':Hp):PR->V->Prop
 | .dat d,v=>Dm K F H' d v
 | .frs d,v=>∃ a,v=.ref a/\H a=none/\Top K (fun b=>F b\/b=a) H' d a
noncomputable def VwL (K:Fg) (F:Addr->Prop) (H:Hp):List PyData->List V->Prop
 | [],vs=>vs=[]
 | d :: ds,vs=>∃ v r,vs=v :: r/\Vw K F H d v/\VwL K F H ds r
structure Cst where
 d:PyData
 v:V
 ok:∀ (K:Fg) (F:Addr->Prop) (H:Hp),Dm K F H d v
noncomputable def Cst.i (i:Int):Cst:=⟨.int i,.int i,fun _ _ _=>rfl⟩
noncomputable def Cst.s (x:Str) (h:x.length<=sizeLine) (h2:PyData.strOk x=true):Cst:=⟨.str x,.str x,fun _ _ _=>⟨rfl,h,h2⟩⟩
noncomputable def Cst.b (b:Bool):Cst:=⟨.bool b,.bl b,fun _ _ _=>rfl⟩
noncomputable def Cst.n:Cst:=⟨.none,.non,fun _ _ _=>rfl⟩
structure Prm where
 r:Fg->List V->Hp->VK->Prop
 f:List PyData->Option PR
 ok:∀ (K:Fg) (F:Addr->Prop) (H:Hp) (ds:List PyData) (vs:List V) (pr:PR) (Q:VK),f ds=some pr->VwL K F H ds vs->(∀ b,F b->H b≠none)->(∀ v H',aw H H'->wA K F H H' pr v->Q v H')->r K vs H Q
structure Mtd where
 T:String
 r:Fg->V->List V->Hp->VK->Prop
 ty:PyData->Bool
 f:PyData->List PyData->Option PR
 yi:∀ (K:Fg) (F:Addr->Prop) (H:Hp) (d:PyData) (v:V),ty d=true->Vw K F H d v->tyV K T v H
 ok:∀ (K:Fg) (F:Addr->Prop) (H:Hp) (d:PyData) (v:V) (ds:List PyData) (vs:List V) (pr:PR) (Q:VK),f d ds=some pr->Vw K F H d v->VwL K F H ds vs->(∀ b,F b->H b≠none)->(∀ v H',aw H H'->wA K F H H' pr v->Q v H')->r K v vs H Q
noncomputable def MvL (K:Fg) (F:Addr->Prop) (H:Hp):List (Bool×PyData)->List V->Prop
 | [],vs=>vs=[]
 | (true,d) :: ds,vs=>∃ v r,vs=v :: r/\Dm K F H d v/\MvL K F H ds r
 | (false,d) :: ds,vs=>∃ v r,vs=v :: r/\Vw K F H d v/\MvL K F H ds r
structure Mtr where
 T:String
 r:Fg->V->List V->Hp->VK->Prop
 ty:PyData->Bool
 f:PyData->List (Bool×PyData)->Option (PyData×PyData)
 yi:∀ (K:Fg) (F:Addr->Prop) (H:Hp) (d:PyData) (a:Addr),ty d=true->Top K F H d a->tyV K T (.ref a) H
 ok:∀ (K:Fg) (F:Addr->Prop) (H:Hp) (d:PyData) (a:Addr) (as:List (Bool×PyData)) (vs:List V) (d' x:PyData) (Q:VK),f d as=some (d',x)->F a->Top K F H d a->MvL K F H as vs ->
  (∀ v H',(∀ b o,b≠a->H b=some o->H' b=some o)->Top K F H' d' a->Dm K F H' x v->Q v H')->r K (.ref a) vs H Q
structure uq where
 r:Fg->V->V->V->Hp->(Hp->Prop)->Prop
 f:PyData->PyData->PyData->Option PyData
 ok:∀ (K:Fg) (F:Addr->Prop) (H:Hp) (d:PyData) (a:Addr) (k x:PyData) (vk vx:V) (d':PyData) (Q:Hp->Prop),f d k x=some d'->F a->Top K F H d a->Vw K F H k vk->Dm K F H x vx ->
  (∀ H',(∀ b o,b≠a->H b=some o->H' b=some o)->Top K F H' d' a->Q H')->r K (.ref a) vk vx H Q
mutual
inductive XE where
 | var (i:Nat) | mov (i:Nat) | tke (i:Nat) | cst (c:Cst) | glb (g:Nat)
 | prm (p:Prm) (as:XA) | met (m:Mtd) (o:XE) (as:XA) | mtr (m:Mtr) (i:Nat) (as:XA) | call (f:Fn) (as:XA)
 | tup (as:XA) | lst (as:XA) | dsp (as:XP) | fst (as:XA)
 | ifx (c:XT) (a b:XE) | sf (a b:XE) | orv (a b:XE) | zc (a:XE) | chn (p q:Prm) (a b c:XE) | sl2 (p:Int->Int->Prm) (a b c:XE)
 | cmp (js:List Nat) (it:XI) (c:XT) (e:XE) | sW (n:List Str) (js:List Nat) (it:XI) (e:XE)
inductive XA where | nil | cons (e:XE) (r:XA)
inductive XP where | nil | cons (k e:XE) (r:XP)
inductive XT where | tst (e:XE) | tru (e:XE) | and (a b:XT) | or (a b:XT) | not (a:XT) | yes
inductive XI where | lst (e:XE) | tup (e:XE) | str (e:XE) | rng1 (as:XA) | rng2 (as:XA) | dct (e:XE) | zip (as:XA) | sq (e:XE)
end
inductive XS where
 | skip | seq (a b:XS) | dg (i:Nat) (e:XE) | lD (i:Nat) (e:XE) | B0 (is:List Nat) (e:XE) | drop (e:XE) | ret (e:XE) | CZ
 | ifs (c:XT) (a b:XS) | fr (i:Nat) (it:XI) (b:XS) | frT (is:List Nat) (it:XI) (b:XS) | wh (n:Nat) (c:XT) (b:XS) | brk | cnt | nev | sto (m:uq) (i:Nat) (k e:XE)
noncomputable def gNs:List Nat->TGs
 | []=>Ft
 | i :: r=>x6 (de i) (gNs r)
noncomputable def gTp (K:PySem.W.Frag) (is:List Nat):TG:=DN K is.length (gNs is)
noncomputable def HY:List TE->TE:=fun ts=>tFs ts Str.empty
noncomputable def NoE:XK:=fun _ _ _=>False
noncomputable def yI (K:PySem.W.Frag) (G I:Addr->Prop) (H:Hp) (d:PyData) (v:V):Prop:=match d with
 | .tuple ds=>Dm K G H (.tuple ds) v
 | d=>∃ a,v=.ref a/\df K G I H d a
noncomputable def a9 (K:PySem.W.Frag) (G I:Addr->Prop) (H:Hp):List PM->List PyData->List V->List Addr->Prop
 | [],[],[],is=>is=[]
 | .dat :: ms,d :: ds,v :: vs,is=>Dm K G H d v/\a9 K G I H ms ds vs is
 | .bor :: ms,d :: ds,v :: vs,is=>yI K G I H d v/\a9 K G I H ms ds vs is
 | .ino :: ms,d :: ds,v :: vs,is=>∃ a r,v=.ref a/\is=a :: r/\G a/\Top K G H d a/\a ∉ r/\a9 K G I H ms ds vs r
 | _,_,_,_=>False
noncomputable def gi (K:PySem.W.Frag) (G:Addr->Prop) (H:Hp):List PyData->List Addr->Prop
 | [],[]=>True
 | d :: ds,a :: r=>Top K G H d a/\gi K G H ds r
 | _,_=>False
noncomputable def DC (K:PySem.W.Frag) (G:Addr->Prop) (H H':Hp) (outs:List PyData) (is:List Addr):PR->V->Prop
 | .dat d,v=>Dm K G H' d v/\gi K G H' outs is
 | .frs d,v=>∃ a,v=.ref a/\H a=none/\Top K (fun b=>G b\/b=a) H' d a/\gi K (fun b=>G b\/b=a) H' outs is
noncomputable def bH (f:Fn) (K:PySem.W.Frag):Sp:=fun vs H Q _=>∃ (G:Addr->Prop) (ds:List PyData) (is:List Addr) (pr:PR) (outs:List PyData),f.F ds=some (pr,outs)/\a9 K G (·∈is) H f.ms ds vs is/\(∀ b,G b->H b≠none) /\
 ∀ v' H',(∀ b o,H b=some o->b ∉ is->H' b=some o)->DC K G H H' outs is pr v'->Q v' H'
section
variable (K:PySem.W.Frag) (ga:Nat->V)
mutual
noncomputable def rE:XE->TE
 | .var i=>ug i | .mov i=>ug i | .tke i=>ug i | .cst c=>tC c.v | .glb g=>tC (ga g)
 | .prm p as=>tCB (p.r K) (rA as) | .met m o as=>tBM K m.T (m.r K) (rE o) (rA as) | .mtr m i as=>tBM K m.T (m.r K) (ug i) (rA as) | .call f as=>p9 (bH f K) [] NoE (rA as)
 | .tup as=>CY (rA as) | .lst as=>ER (rA as) | .dsp as=>qO (rP as) | .fst as=>HY (rF as)
 | .ifx c a b=>tIf (rT c) (rE a) (rE b) | .sf a b=>yk (rE a) (rE b) | .orv a b=>D8 (rE a) (rE b) | .zc a=>ya (rE a)
 | .chn p q a b c=>kB (fun x y=>p.r K [x,y]) (fun x y=>q.r K [x,y]) (rE a) (rE b) (rE c)
 | .sl2 p a b c=>fun σ H Q=>rE a σ H fun x H1=>rE b σ H1 fun y H2=>∃ i,y=.int i/\rE c σ H2 fun z H3=>∃ j,z=.int j/\(p i j).r K [x] H3 Q
 | .cmp js it c e=>uO js (rI_ it) (rT c) (rE e) | .sW n js it e=>BB n js (rI_ it) (gTp K (List.range n.length)) (rE e)
noncomputable def rA:XA->TA
 | .nil=>kM | .cons e r=>cF (rE e) (rA r)
noncomputable def rF:XA->List TE
 | .nil=>[] | .cons e r=>rE e :: rF r
noncomputable def rP:XP->List (TE×TE)
 | .nil=>[] | .cons k e r=>(rE k,rE e) :: rP r
noncomputable def rT:XT->TT
 | .tst e=>tB (rE e) | .tru e=>HZ K (rE e) | .and a b=>FO (rT a) (rT b) | .or a b=>tOr (rT a) (rT b) | .not a=>E2 (rT a) | .yes=>Ed
noncomputable def rI_:XI->TI
 | .lst e=>tK K (rE e) | .tup e=>C5 K (rE e) | .str e=>D4 (rE e) | .rng1 as=>w8 (rA as) | .rng2 as=>ED (rA as) | .dct e=>Im (rE e) | .zip as=>FX K (rA as) | .sq e=>HH K (rE e)
end
noncomputable def rS:XS->TS
 | .skip=>xU | .seq a b=>DX (rS a) (rS b) | .dg i e=>tZ (rE K ga e) (de i) | .lD i e=>tZ (rE K ga e) (de i) | .B0 is e=>tZ (rE K ga e) (gTp K is) | .drop e=>yY (rE K ga e) | .ret e=>Ef (rE K ga e) | .CZ=>FN
 | .ifs c a b=>Gj (rT K ga c) (rS a) (rS b) | .fr i it b=>As (rI_ K ga it) (de i) (rS b) | .frT is it b=>As (rI_ K ga it) (gTp K is) (rS b) | .wh n c b=>p7 (rT K ga c) (rS b) | .brk=>Bt | .cnt=>Gb | .nev=>vQ
 | .sto m i k e=>fun D σ H=>rE K ga e σ H fun x H1=>ug i σ H1 fun o H2=>rE K ga k σ H2 fun y H3=>m.r K o y x H3 (D.nx σ)
end
noncomputable def FD:PyData->Bool
 | .none=>false | .bool b=>b | .int i=>i != 0 | .str x=>(x.length:Int) != 0 | .list ds=>!ds.isEmpty | .tuple ds=>!ds.isEmpty | .dict ds=>!ds.isEmpty
noncomputable def D0:PyData->Bool | .dict _=>true | _=>false
noncomputable def lP (lk:Bool):Sl->Sl
 | .own d=>if lk then .ro d else .ino d
 | .ino d=>if lk then .ro d else .ino d
 | s=>s
noncomputable def b5 (env:En) (lock:Option Nat) (js:List Nat):En:=js.map fun j=>lP (decide (lock=some j)) (env[j]?.getD .un)
noncomputable def ar:En->List Nat->En->En
 | env,j :: js,.ino d :: es=>ar (dQ env j d) js es
 | env,_ :: js,_ :: es=>ar env js es
 | env,_,_=>env
noncomputable def s8 (step:PyData->En->Option (Option PyData×En)):List PyData->En->Option (List PyData×En)
 | [],env=>some ([],env)
 | d :: ds,env=>match step d env with
  | some (y,e1)=>match s8 step ds e1 with
   | some (ys,e2)=>some (y.toList++ys,e2)
   | none=>none
  | none=>none
noncomputable def DZ (env:En):PM->AV->Option PyData
 | .dat,.dat d=>some d
 | .bor,.dat (.list d)=>some (.list d)
 | .bor,.dat (.dict d)=>some (.dict d)
 | .bor,.dat (.tuple d)=>some (.tuple d)
 | .bor,.bor i=>cont env i
 | .ino,.bor i=>az env i
 | _,_=>none
noncomputable def gU (env:En):List PM->List AV->Option (List PyData)
 | [],[]=>some []
 | m :: ms,a :: as=>match DZ env m a,gU env ms as with
  | some d,some ds=>some (d :: ds)
  | _,_=>none
 | _,_=>none
noncomputable def bJ:List PM->List AV->List Nat
 | .ino :: ms,.bor i :: as=>i :: bJ ms as
 | _ :: ms,_ :: as=>bJ ms as
 | _,_=>[]
noncomputable def ph:List PM->List AV->List Nat
 | .bor :: ms,.bor i :: as=>i :: ph ms as
 | _ :: ms,_ :: as=>ph ms as
 | _,_=>[]
noncomputable def b6:En->List Nat->List PyData->En
 | env,i :: is,d :: ds=>b6 (dQ env i d) is ds
 | env,_,_=>env
noncomputable def x4:List Nat->Bool
 | []=>true
 | x :: xs=>!xs.contains x&&x4 xs
noncomputable def ckA (is bs:List Nat) (n:Nat):Bool:=x4 is&&(bs.all (fun i=>!is.contains i)&&n==is.length)
noncomputable def uL (f:Fn) (avs:List AV) (env:En):Option (RV×En) :=
 match gU env f.ms avs with
 | none=>none
 | some ds=>match f.F ds with
  | none=>none
  | some (pr,outs)=>if ckA (bJ f.ms avs) (ph f.ms avs) outs.length=true then some (pr.rv,b6 env (bJ f.ms avs) outs) else none
noncomputable def aA (env:En):List AV->Option (List PyData)
 | []=>some []
 | a :: as=>match a.view env,aA env as with
  | some d,some ds=>some (d :: ds)
  | _,_=>none
noncomputable def AV.FK:AV->Bool | .dat _=>true | .bor _=>false
noncomputable def cn (env:En):List AV->Option (List (Bool×PyData))
 | []=>some []
 | a :: as=>match a.view env,cn env as with
  | some d,some ds=>some ((a.FK,d) :: ds)
  | _,_=>none
noncomputable def km:List AV->Option (List PyData)
 | []=>some []
 | .dat d :: as=>match km as with | some ds=>some (d :: ds) | none=>none
 | .bor _ :: _=>none
noncomputable def Em:List AV->Option (List Str)
 | []=>some []
 | .dat (.str x) :: as=>match Em as with | some ds=>some (x :: ds) | none=>none
 | _ :: _=>none
noncomputable def keyOf:PyData->Option Key | .int i=>some (.inl i) | .str x=>some (.inr x) | _=>none
noncomputable def putD (kvs:List (PyData×PyData)) (k d:PyData):List (PyData×PyData) :=
 if (kvs.any fun kv=>PyData.eqv kv.1 k)=true then kvs.map (fun kv=>if PyData.eqv kv.1 k=true then (kv.1,d) else kv) else kvs++[(k,d)]
noncomputable def getD (kvs:List (PyData×PyData)) (k:PyData):Option PyData:=(kvs.find? fun kv=>PyData.eqv kv.1 k).map (·.2)
noncomputable def aX (env:En):Option Nat->En
 | some i=>match env[i]? with | some (.own d)=>env.set i (.ro d) | some (.ino d)=>env.set i (.ro d) | _=>env
 | none=>env
noncomputable def ak (ES:En) (lock:Option Nat) (env:En):En:=match lock with
 | some i=>match ES[i]?,env[i]? with
  | some (.own _),some (.ro d)=>env.set i (.own d)
  | some (.ino _),some (.ro d)=>env.set i (.ino d)
  | _,_=>env
 | none=>env
noncomputable def bw (t:En->Option (Bool×En)) (b:En->Option (RV×En)) (d:PyData) (ec:En):Option (Option PyData×En):=match t (.dat d :: ec) with
 | some (true,e2)=>match b e2 with
  | some (rv,e3)=>match rv.av with | .dat y=>some (some y,e3.tail) | .bor _=>none
  | none=>none
 | some (false,e2)=>some (none,e2.tail)
 | none=>none
noncomputable def jj (n:Nat) (b:En->Option (RV×En)) (d:PyData) (ec:En):Option (Option PyData×En):=match d with
 | .tuple xs=>if xs.length=n then match b (xs.map .dat++ec) with
   | some (rv,e3)=>match rv.av with | .dat y=>some (some y,e3.drop n) | .bor _=>none
   | none=>none
  else none
 | _=>none
noncomputable def roL (e:En):AV->Option (List PyData)
 | .dat (.list xs)=>some xs
 | .bor i=>match e[i]? with | some (.ro (.list xs))=>some xs | _=>none
 | _=>none
mutual
noncomputable def dE (gd:List PyData):XE->En->Option (RV×En)
 | .var i,env=>match env[i]? with | some (.dat d)=>some (.dat d,env) | some (.own _)=>some (.bor i,env) | some (.ino _)=>some (.bor i,env) | some (.ro _)=>some (.bor i,env) | _=>none
 | .mov i,env=>match env[i]? with | some (.own d)=>some (.dat d,env.set i (.dat d)) | _=>none
 | .tke i,env=>match env[i]? with | some (.own d)=>some (.frs d,env.set i .un) | _=>none
 | .cst c,env=>some (.dat c.d,env)
 | .glb g,env=>match gd[g]? with | some d=>some (.dat d,env) | none=>none
 | .prm p as,env=>match dA gd as env with
  | some (avs,e1)=>match aA e1 avs with
   | some ds=>match p.f ds with | some pr=>some (pr.rv,e1) | none=>none
   | none=>none
  | none=>none
 | .met m o as,env=>match dE gd o env with
  | some (rv,e1)=>match rv.view e1 with
   | some d0=>if m.ty d0=true then match dA gd as e1 with
     | some (avs,e2)=>match rv.view e2,aA e2 avs with
      | some d,some ds=>match m.f d ds with | some pr=>some (pr.rv,e2) | none=>none
      | _,_=>none
     | none=>none
    else none
   | none=>none
  | none=>none
 | .mtr m i as,env=>match az env i with
  | some d0=>if m.ty d0=true then match dA gd as env with
    | some (avs,e1)=>match az e1 i,cn e1 avs with
     | some d,some ds=>match m.f d ds with | some (d',x)=>some (.dat x,dQ e1 i d') | none=>none
     | _,_=>none
    | none=>none
   else none
  | none=>none
 | .call f as,env=>match dA gd as env with
  | some (avs,e1)=>uL f avs e1
  | none=>none
 | .tup as,env=>match dA gd as env with
  | some (avs,e1)=>match km avs with | some ds=>if ds.length<=sizeLine then some (.dat (.tuple ds),e1) else none | none=>none
  | none=>none
 | .lst as,env=>match dA gd as env with
  | some (avs,e1)=>match km avs with | some ds=>if ds.length<=sizeLine then some (.frs (.list ds),e1) else none | none=>none
  | none=>none
 | .dsp as,env=>match dP gd as env with
  | some (kvs,e1)=>if kvs.length<=15 then some (.frs (.dict (kvs.foldl (fun acc kv=>putD acc (kD kv.1) kv.2) [])),e1) else none
  | none=>none
 | .fst as,env=>match dF gd as Str.empty env with
  | some (x,e1)=>some (.dat (.str x),e1)
  | none=>none
 | .ifx c a b,env=>match dT gd c env with
  | some (true,e1)=>dE gd a e1
  | some (false,e1)=>dE gd b e1
  | none=>none
 | .sf a b,env=>match dE gd a env with
  | some (.dat (.bool true),e1)=>dE gd b e1
  | some (.dat (.bool false),e1)=>some (.dat (.bool false),e1)
  | _=>none
 | .orv a b,env=>match dE gd a env with
  | some (.dat (.bool true),e1)=>some (.dat (.bool true),e1)
  | some (.dat (.bool false),e1)=>dE gd b e1
  | _=>none
 | .zc a,env=>match dE gd a env with
  | some (.dat (.bool x),e1)=>some (.dat (.bool (!x)),e1)
  | _=>none
 | .chn p q a b c,env=>match dE gd a env with
  | some (ra,e1)=>match dE gd b e1 with
   | some (rb,e2)=>match ra.av,rb.av with
    | .dat x,.dat y=>match p.f [x,y] with
     | some (.dat (.bool true))=>match dE gd c e2 with
      | some (rc,e3)=>match rc.av with
       | .dat z=>match q.f [y,z] with | some pr=>some (pr.rv,e3) | none=>none
       | _=>none
      | none=>none
     | some (.dat (.bool false))=>some (.dat (.bool false),e2)
     | _=>none
    | _,_=>none
   | none=>none
  | none=>none
 | .sl2 p a b c,env=>match dE gd a env with
  | some (ra,e1)=>match dE gd b e1 with
   | some (.dat (.int i),e2)=>match dE gd c e2 with
    | some (.dat (.int j),e3)=>match ra.view e3 with
     | some d=>match (p i j).f [d] with | some pr=>some (pr.rv,e3) | none=>none
     | none=>none
    | _=>none
   | _=>none
  | none=>none
 | .cmp js it c e,env=>match dI gd it env with
  | some (ds,lock,e1)=>if js.Nodup then match s8 (bw (dT gd c) (dE gd e)) ds (b5 e1 lock js) with
    | some (ys,ec)=>some (.frs (.list ys),ar e1 js ec)
    | none=>none
   else none
  | none=>none
 | .sW n js it e,env=>match dI gd it env with
  | some (ds,lock,e1)=>if js.Nodup then match s8 (jj n.length (dE gd e)) ds (b5 e1 lock js) with
    | some (ys,ec)=>some (.frs (.list ys),ar e1 js ec)
    | none=>none
   else none
  | none=>none
noncomputable def dA (gd:List PyData):XA->En->Option (List AV×En)
 | .nil,env=>some ([],env)
 | .cons e r,env=>match dE gd e env with
  | some (rv,e1)=>match dA gd r e1 with
   | some (avs,e2)=>some (rv.av :: avs,e2)
   | none=>none
  | none=>none
noncomputable def dF (gd:List PyData):XA->Str->En->Option (Str×En)
 | .nil,out,env=>if out.length<=sizeLine then some (out,env) else none
 | .cons e r,out,env=>match dE gd e env with
  | some (.dat (.str x),e1)=>if (out++x).length<=sizeLine then dF gd r (out++x) e1 else none
  | _=>none
noncomputable def dP (gd:List PyData):XP->En->Option (List (Key×PyData)×En)
 | .nil,env=>some ([],env)
 | .cons k e r,env=>match dE gd k env with
  | some (rk,e1)=>match dE gd e e1 with
   | some (rv,e2)=>match dP gd r e2 with
    | some (kvs,e3)=>match rk.av,rv.av with
     | .dat dk,.dat d=>match keyOf dk with | some k=>some ((k,d) :: kvs,e3) | none=>none
     | _,_=>none
    | none=>none
   | none=>none
  | none=>none
noncomputable def dT (gd:List PyData):XT->En->Option (Bool×En)
 | .tst e,env=>match dE gd e env with | some (.dat (.bool b),e1)=>some (b,e1) | _=>none
 | .tru e,env=>match dE gd e env with
  | some (rv,e1)=>match rv.view e1 with | some d=>if D0 d=true then none else some (FD d,e1) | none=>none
  | none=>none
 | .and a b,env=>match dT gd a env with | some (true,e1)=>dT gd b e1 | some (false,e1)=>some (false,e1) | none=>none
 | .or a b,env=>match dT gd a env with | some (true,e1)=>some (true,e1) | some (false,e1)=>dT gd b e1 | none=>none
 | .not a,env=>match dT gd a env with | some (b,e1)=>some (!b,e1) | none=>none
 | .yes,env=>some (true,env)
noncomputable def dI (gd:List PyData):XI->En->Option (List PyData×Option Nat×En)
 | .lst e,env=>match dE gd e env with
  | some (rv,e1)=>match rv.av with
   | .dat (.list ds)=>some (ds,none,e1)
   | .dat _=>none
   | .bor i=>match cont e1 i with | some (.list ds)=>some (ds,some i,e1) | _=>none
  | none=>none
 | .dct e,env=>match dE gd e env with
  | some (rv,e1)=>match rv.av with
   | .dat (.dict kvs)=>some (kvs.map (·.1),none,e1)
   | .dat _=>none
   | .bor i=>match cont e1 i with | some (.dict kvs)=>some (kvs.map (·.1),some i,e1) | _=>none
  | none=>none
 | .tup e,env=>match dE gd e env with
  | some (rv,e1)=>match rv.av with | .dat (.tuple ds)=>some (ds,none,e1) | _=>none
  | none=>none
 | .sq e,env=>match dE gd e env with
  | some (rv,e1)=>match rv.av with
   | .dat (.list ds)=>some (ds,none,e1)
   | .dat (.tuple ds)=>some (ds,none,e1)
   | .dat _=>none
   | .bor i=>match cont e1 i with | some (.list ds)=>some (ds,some i,e1) | _=>none
  | none=>none
 | .str e,env=>match dE gd e env with
  | some (rv,e1)=>match rv.av with | .dat (.str x)=>some (x.cps.toList.map fun c=>.str ⟨#[c]⟩,none,e1) | _=>none
  | none=>none
 | .rng1 as,env=>match dA gd as env with
  | some (avs,e1)=>match avs with | [.dat (.int j)]=>if -(2 ^ 62)<=j/\j<=2 ^ 24 then some ((List.range j.toNat).map fun (k:Nat)=>.int ((0:Int)+(k:Int)),none,e1) else none | _=>none
  | none=>none
 | .zip as,env=>match dA gd as env with
  | some (avs,e1)=>match avs with
   | [x,y]=>match roL e1 x,roL e1 y with | some xs,some ys=>some ((xs.zip ys).map fun p=>.tuple [p.1,p.2],none,e1) | _,_=>none
   | _=>none
  | none=>none
 | .rng2 as,env=>match dA gd as env with
  | some (avs,e1)=>match avs with | [.dat (.int i),.dat (.int j)]=>if -(2 ^ 62)<=i/\i < 2 ^ 62/\-(2 ^ 62)<=j/\j < 2 ^ 62/\j - i<=2 ^ 24 then some ((List.range (j - i).toNat).map fun (k:Nat)=>.int (i+(k:Int)),none,e1) else none | _=>none
  | none=>none
end
noncomputable def lkd (env:En):Option Nat->Bool
 | some i=>match env[i]? with | some (.own _)=>true | some (.ino _)=>true | _=>false
 | none=>false
noncomputable def RV.soft (b:Bool):RV->RV | .frs d=>if b then .dat d else .frs d | r=>r
inductive Out where | nx (env:En) | rt (rv:RV) (env:En) | bk (env:En) | ct (env:En)
noncomputable def Out.map (b:Bool) (f:En->En):Out->Out | .nx e=>.nx (f e) | .rt r e=>.rt (r.soft b) (f e) | .bk e=>.bk (f e) | .ct e=>.ct (f e)
noncomputable def forL (b:PyData->En->Option Out):List PyData->En->Option Out
 | [],env=>some (.nx env)
 | d :: ds,env=>match b d env with
  | some (.nx e)=>forL b ds e
  | some (.ct e)=>forL b ds e
  | some (.bk e)=>some (.nx e)
  | some (.rt r e)=>some (.rt r e)
  | none=>none
noncomputable def whL (t:En->Option (Bool×En)) (b:En->Option Out):Nat->En->Option Out
 | 0,_=>none
 | n+1,env=>match t env with
  | some (true,e1)=>match b e1 with
   | some (.nx e)=>whL t b n e
   | some (.ct e)=>whL t b n e
   | some (.bk e)=>some (.nx e)
   | some (.rt r e)=>some (.rt r e)
   | none=>none
  | some (false,e1)=>some (.nx e1)
  | none=>none
noncomputable def free (env:En) (i:Nat):Bool:=match env[i]? with | some .un=>true | some (.dat _)=>true | some (.own _)=>true | _=>false
noncomputable def dq:En->List Nat->List PyData->Option En
 | env,[],[]=>some env
 | env,i :: is,d :: ds=>if free env i=true then dq (env.set i (.dat d)) is ds else none
 | _,_,_=>none
noncomputable def iE (i:Nat) (b:En->Option Out) (d:PyData) (e:En):Option Out:=if free e i=true then b (e.set i (.dat d)) else none
noncomputable def gr (is:List Nat) (b:En->Option Out) (d:PyData) (e:En):Option Out:=match d with
 | .tuple xs=>match dq e is xs with | some e2=>b e2 | none=>none
 | _=>none
noncomputable def dS (gd:List PyData):XS->En->Option Out
 | .skip,env=>some (.nx env)
 | .seq a b,env=>match dS gd a env with
  | some (.nx e)=>dS gd b e
  | o=>o
 | .dg i e,env=>match dE gd e env with
  | some (rv,e1)=>match rv.av with | .dat d=>if free e1 i=true then some (.nx (e1.set i (.dat d))) else none | .bor _=>none
  | none=>none
 | .lD i e,env=>match dE gd e env with
  | some (.frs d,e1)=>if free e1 i=true then some (.nx (e1.set i (.own d))) else none
  | _=>none
 | .B0 is e,env=>match dE gd e env with
  | some (rv,e1)=>match rv.av with
   | .dat (.tuple ds)=>match dq e1 is ds with | some e2=>some (.nx e2) | none=>none
   | _=>none
  | none=>none
 | .drop e,env=>match dE gd e env with | some (_,e1)=>some (.nx e1) | none=>none
 | .ret e,env=>match dE gd e env with | some (rv,e1)=>some (.rt rv e1) | none=>none
 | .CZ,env=>some (.rt (.dat .none) env)
 | .ifs c a b,env=>match dT gd c env with
  | some (true,e1)=>dS gd a e1
  | some (false,e1)=>dS gd b e1
  | none=>none
 | .fr i it b,env=>match dI gd it env with
  | some (ds,lock,e1)=>(forL (iE i (dS gd b)) ds (aX e1 lock)).map (Out.map (lkd e1 lock) (ak e1 lock))
  | none=>none
 | .frT is it b,env=>match dI gd it env with
  | some (ds,lock,e1)=>(forL (gr is (dS gd b)) ds (aX e1 lock)).map (Out.map (lkd e1 lock) (ak e1 lock))
  | none=>none
 | .wh n c b,env=>whL (dT gd c) (dS gd b) n env
 | .brk,env=>some (.bk env)
 | .cnt,env=>some (.ct env)
 | .nev,_=>none
 | .sto m i k e,env=>match dE gd e env with
  | some (rv,e1)=>match rv.av with
   | .dat x=>match az e1 i with
    | some _=>match dE gd k e1 with
     | some (rk,e2)=>match rk.view e2,az e2 i with
      | some dk,some d=>match m.f d dk x with | some d'=>some (.nx (dQ e2 i d')) | none=>none
      | _,_=>none
     | none=>none
    | none=>none
   | .bor _=>none
  | none=>none
noncomputable def yW:PyData->Sl | .tuple ds=>.dat (.tuple ds) | d=>.ro d
noncomputable def ah:List PM->List PyData->Nat->En
 | .dat :: ms,d :: ds,n=>.dat d :: ah ms ds (n - 1)
 | .bor :: ms,d :: ds,n=>yW d :: ah ms ds (n - 1)
 | .ino :: ms,d :: ds,n=>.ino d :: ah ms ds (n - 1)
 | _,_,n=>List.replicate n .un
noncomputable def f6:List PM->En->Option (List PyData)
 | .ino :: ms,.ino d :: es=>match f6 ms es with | some ds=>some (d :: ds) | none=>none
 | .ino :: _,_=>none
 | _ :: ms,_ :: es=>f6 ms es
 | _,_=>some []
noncomputable def RV.pr:RV->Option PR | .dat d=>some (.dat d) | .frs d=>some (.frs d) | .bor _=>none
noncomputable def b7 (gd:List PyData) (ms:List PM) (n:Nat) (b:XS):Fn where
 ms:=ms
 F:=fun ds=>if ds.length=ms.length then match dS gd b (ah ms ds n) with
   | some (.rt rv env)=>match rv.pr,f6 ms env with | some pr,some outs=>some (pr,outs) | _,_=>none
   | some (.nx env)=>match f6 ms env with | some outs=>some (.dat .none,outs) | none=>none
   | _=>none
  else none
end L2
end
section
namespace L2
open PySem
theorem aw.rf (H:Hp):aw H H:=fun _ _ h=>h
theorem aw.nw {H:Hp} {a:Addr} (o:HO) (h:H a=none):aw H (upd H a o):=fun b u q=>by rw [ae (ax q h)];exact q
section
variable {K:Fg} {F F' I I' F0:Addr->Prop} {H H' H₀:Hp} {env env':En} {σ σ':St} {ga:Nat->V} {gd:List PyData}
noncomputable def cP (K:Fg) (F0:Addr->Prop) (H₀:Hp) (I:Addr->Prop) (env:En) (σ:St) (H:Hp):RV->V->Prop
 | .dat d,v=>Dm K (FF F0 env σ) H d v
 | .bor i,v=>σ[i]?=some (some v)
 | .frs d,v=>∃ a,v=.ref a/\Rel K (fun b=>F0 b\/b=a) H₀ I env σ H/\Top K (fun b=>FF F0 env σ b\/b=a) H d a/\(H₀ a=none\/I a)/\¬FF F0 env σ a/\(∀ (i:Nat) (d':PyData),env[i]?=some (.ino d')->σ[i]?≠some (some (.ref a))) /\
   ∀ (i:Nat) (d':PyData),env[i]?=some (.ro d')->∃ b,σ[i]?=some (some (.ref b))/\df K (fun b=>FF F0 env σ b\/b=a) (fun b=>IA env σ b\/b=a) H d' b
noncomputable def vP (K:Fg) (F0:Addr->Prop) (env:En) (σ:St) (H:Hp):AV->V->Prop
 | .dat d,v=>Dm K (FF F0 env σ) H d v
 | .bor i,v=>σ[i]?=some (some v)
noncomputable def fj (K:Fg) (F0:Addr->Prop) (env:En) (σ:St) (H:Hp):List AV->List V->Prop
 | [],vs=>vs=[]
 | a :: as,vs=>∃ v r,vs=v :: r/\vP K F0 env σ H a v/\fj K F0 env σ H as r
theorem cP.av {rv:RV} {v:V} (h:cP K F0 H₀ I env σ H rv v):vP K F0 env σ H rv.av v:=by
 cases rv with
 | dat d=>exact h
 | bor i=>exact h
 | frs d =>
  obtain ⟨a,e,R,t,_,n,_⟩:=h;subst e;exact (t.pr Pr.refl (F':=FF F0 env σ) (fun _ z=>.inl z) (fun _ z=>z)).dm n
theorem vP.keep (R:Rel K F0 H₀ I env σ H) (S:Rel K F0 H (IA env σ) env' σ H') (k:KpE env env') {a:AV} {v:V} (h:vP K F0 env σ H a v):vP K F0 env' σ H' a v:=by
 cases a with
 | dat d=>exact R.mF S k h
 | bor i=>exact h
theorem Rel.EM (R:Rel K F0 H₀ I env σ H) {i:Nat} {d:PyData} {v:V} (h:cont env i=some d) (s:σ[i]?=some (some v)):Vw K (FF F0 env σ) H d v:=by
 unfold cont at h;cases e:env[i]? with
 | none=>rw [e] at h;cases h
 | some sl =>
  rw [e] at h;cases sl with
  | un=>cases h
  | dat _=>cases h
  | own d' =>
   cases h;obtain ⟨a,q,_,_,t⟩:=R.own i d e;rw [s] at q;cases q;exact t.r.vw
  | ino d' =>
   cases h;obtain ⟨a,q,_,_,t⟩:=R.ino i d e;rw [s] at q;cases q;exact t.r.vw
  | ro d' =>
   cases h;obtain ⟨a,q,t⟩:=R.ro i d e;rw [s] at q;cases q;exact t.r.vw
theorem Rel.bW (R:Rel K F0 H₀ I env σ H) {i:Nat} {d:PyData} (h:az env i=some d):mu env i/\∃ a,σ[i]?=some (some (.ref a))/\FF F0 env σ a/\Top K (FF F0 env σ) H d a:=by
 unfold az at h;cases e:env[i]? with
 | none=>rw [e] at h;cases h
 | some sl =>
  rw [e] at h;cases sl with
  | un=>cases h
  | dat _=>cases h
  | own d' =>
   cases h;obtain ⟨a,q,_,_,t⟩:=R.own i d e;exact ⟨⟨d,.inl e⟩,a,q,.inr ⟨i,d,e,q⟩,t⟩
  | ino d' =>
   cases h;obtain ⟨a,q,f,_,t⟩:=R.ino i d e;exact ⟨⟨d,.inr e⟩,a,q,.inl f,t⟩
  | ro d'=>cases h
theorem vP.vw (R:Rel K F0 H₀ I env σ H) {a:AV} {v:V} {d:PyData} (h:vP K F0 env σ H a v) (e:a.view env=some d):Vw K (FF F0 env σ) H d v:=by
 cases a with
 | dat d'=>cases e;exact Dm.vw h
 | bor i=>exact R.EM e h
theorem fj.vw (R:Rel K F0 H₀ I env σ H):∀ {as:List AV} {vs:List V} {ds:List PyData},fj K F0 env σ H as vs->aA env as=some ds->VwL K (FF F0 env σ) H ds vs
 | [],_,ds,h,e=>by cases e;exact h
 | a :: as,_,ds,h,e=>by
  obtain ⟨v,r,rfl,h1,h2⟩:=h;unfold aA at e;cases e1:a.view env with
  | none=>rw [e1] at e;cases e
  | some d =>
   cases e2:aA env as with
   | none=>rw [e1,e2] at e;cases e
   | some ds' =>
    rw [e1,e2] at e;cases e;exact ⟨v,r,rfl,h1.vw R e1,fj.vw R h2 e2⟩
theorem fj.mv (R:Rel K F0 H₀ I env σ H):∀ {as:List AV} {vs:List V} {ds:List (Bool×PyData)},fj K F0 env σ H as vs->cn env as=some ds->MvL K (FF F0 env σ) H ds vs
 | [],_,ds,h,e=>by cases e;exact h
 | a :: as,_,ds,h,e=>by
  obtain ⟨v,r,rfl,h1,h2⟩:=h;unfold cn at e;cases e1:a.view env with
  | none=>rw [e1] at e;cases e
  | some d =>
   cases e2:cn env as with
   | none=>rw [e1,e2] at e;cases e
   | some ds' =>
    rw [e1,e2] at e;cases e;have ih:=fj.mv R h2 e2;cases a with
    | dat d'=>cases e1;exact ⟨v,r,rfl,h1,ih⟩
    | bor i=>exact ⟨v,r,rfl,h1.vw R e1,ih⟩
theorem fj.Dt:∀ {as:List AV} {vs:List V} {ds:List PyData},fj K F0 env σ H as vs->km as=some ds->DmL K (FF F0 env σ) H ds vs
 | [],_,ds,h,e=>by cases e;exact h
 | .dat d :: as,_,ds,h,e=>by
  obtain ⟨v,r,rfl,h1,h2⟩:=h;unfold km at e;cases e2:km as with
  | none=>rw [e2] at e;cases e
  | some ds' =>
   rw [e2] at e;cases e;exact ⟨v,r,rfl,h1,fj.Dt h2 e2⟩
 | .bor i :: as,_,ds,h,e=>by unfold km at e;cases e
theorem df.wQ {d:PyData} {a c:Addr} (hc:H c=none) (h:df K F I H d a):df K F (fun b=>I b\/b=c) H d a:=by
 cases d with
 | list ds=>obtain ⟨xs,e,z,r⟩:=h;exact ⟨xs,e.fresh hc,z,r⟩
 | dict ds =>
  obtain ⟨ep,xs,n,e,z,r⟩:=h;exact ⟨ep,xs,fun q=>q.elim n fun q=>(by subst q;rw [hc] at e;cases e),e,z,r⟩
 | _=>exact absurd h id
theorem Rel.ko (R:Rel K F0 H₀ I env σ H) (s:aw H H') {pr:PR} {v:V} (h:wA K (FF F0 env σ) H H' pr v):cP K F0 H₀ I env σ H' pr.rv v:=by
 cases pr with
 | dat d=>exact h
 | frs d =>
  obtain ⟨a,e,hn,t⟩:=h;refine ⟨a,e,R.fresh hn s ?_,t,R.oi (.inl hn),fun z=>R.cN z hn,fun i d' e' q=>?_,fun i d' e'=>?_⟩
  ·obtain ⟨o,q,_⟩:=t.wr;rw [q];exact nofun
  ·obtain ⟨o,z,_⟩:=R.iaT ⟨i,⟨d',.inr e'⟩,q⟩;rw [hn] at z;cases z
  ·obtain ⟨b,q,t'⟩:=R.ro i d' e';exact ⟨b,q,((t'.fresh hn).wQ hn).pr (Pr.of_same s) (fun _ z=>z) (fun _ z=>z) fun b o z _=>s _ _ z⟩
theorem pG (env:En) (i:Nat) (d:PyData):KpE env (dQ env i d):=by
 unfold dQ;cases e:env[i]? with
 | none=>exact KpE.refl _
 | some sl =>
  have hi:i < env.length:=(IK.mp e).1;cases sl with
  | un=>exact KpE.refl _
  | dat _=>exact KpE.refl _
  | ro _=>exact KpE.refl _
  | own d' =>
   refine ⟨JB,fun j s h=>?_⟩;by_cases z:i=j
   ·subst z;rw [e] at h;cases h;exact ⟨.own d,by rw [Je hi],.inl ⟨d,rfl⟩⟩
   ·exact ⟨s,by rw [IL z];exact h,.refl s⟩
  | ino d' =>
   refine ⟨JB,fun j s h=>?_⟩;by_cases z:i=j
   ·subst z;rw [e] at h;cases h;exact ⟨.ino d,by rw [Je hi],⟨d,rfl⟩⟩
   ·exact ⟨s,by rw [IL z];exact h,.refl s⟩
noncomputable def SmK (env env':En):Prop:=env'.length=env.length/\∀ i:Nat,env'[i]?=env[i]?\/(∃ d d',env[i]?=some (.own d)/\env'[i]?=some (.own d'))\/∃ d d',env[i]?=some (.ino d)/\env'[i]?=some (.ino d')
theorem SmK.refl (env:En):SmK env env:=⟨rfl,fun _=>.inl rfl⟩
theorem SmK.trans {e1 e2 e3:En} (a:SmK e1 e2) (b:SmK e2 e3):SmK e1 e3:=⟨b.1.trans a.1,fun i=>by
 rcases b.2 i with h | ⟨d,d',h,h'⟩ | ⟨d,d',h,h'⟩
 ·rw [h];exact a.2 i
 ·rcases a.2 i with q | ⟨c,c',q,q'⟩ | ⟨c,c',q,q'⟩
  ·exact .inr (.inl ⟨d,d',by rw [<- q];exact h,h'⟩)
  ·exact .inr (.inl ⟨c,d',q,h'⟩)
  ·rw [h] at q';cases q'
 ·rcases a.2 i with q | ⟨c,c',q,q'⟩ | ⟨c,c',q,q'⟩
  ·exact .inr (.inr ⟨d,d',by rw [<- q];exact h,h'⟩)
  ·rw [h] at q';cases q'
  ·exact .inr (.inr ⟨c,d',q,h'⟩)⟩
theorem SmK.kp (k:SmK env env'):KpE env env':=⟨k.1,fun i s e=>by
 rcases k.2 i with h | ⟨d,d',h,h'⟩ | ⟨d,d',h,h'⟩
 ·exact ⟨s,by rw [h];exact e,.refl s⟩
 ·rw [e] at h;cases h;exact ⟨_,h',.inl ⟨d',rfl⟩⟩
 ·rw [e] at h;cases h;exact ⟨_,h',⟨d',rfl⟩⟩⟩
theorem SmK.symm (k:SmK env env'):SmK env' env:=⟨k.1.symm,fun i=>by
 rcases k.2 i with h | ⟨d,d',h,h'⟩ | ⟨d,d',h,h'⟩
 ·exact .inl h.symm
 ·exact .inr (.inl ⟨d',d,h',h⟩)
 ·exact .inr (.inr ⟨d',d,h',h⟩)⟩
theorem SmK.ff (k:SmK env env'):FF F0 env' σ=FF F0 env σ:=by
 funext b;exact propext ⟨fun h=>k.kp.ff h,fun h=>k.symm.kp.ff h⟩
theorem SmK.ia (k:SmK env env'):IA env' σ=IA env σ:=by
 funext b;exact propext ⟨fun h=>k.kp.ia h,fun h=>k.symm.kp.ia h⟩
theorem cK (env:En) (i:Nat) (d:PyData):SmK env (dQ env i d):=by
 unfold dQ;cases e:env[i]? with
 | none=>exact SmK.refl _
 | some sl =>
  have hi:i < env.length:=(IK.mp e).1;cases sl with
  | un=>exact SmK.refl _
  | dat _=>exact SmK.refl _
  | ro _=>exact SmK.refl _
  | own d' =>
   refine ⟨JB,fun j=>?_⟩;by_cases z:i=j
   ·subst z;exact .inr (.inl ⟨d',d,e,by rw [Je hi]⟩)
   ·exact .inl (by rw [IL z])
  | ino d' =>
   refine ⟨JB,fun j=>?_⟩;by_cases z:i=j
   ·subst z;exact .inr (.inr ⟨d',d,e,by rw [Je hi]⟩)
   ·exact .inl (by rw [IL z])
theorem ji {env:En} {i:Nat} {d:PyData} (h:mu env i):az (dQ env i d) i=some d:=by
 unfold dQ az;obtain ⟨d',e | e⟩:=h
 ·have hi:i < env.length:=(IK.mp e).1;rw [e];simp only;rw [Je hi]
 ·have hi:i < env.length:=(IK.mp e).1;rw [e];simp only;rw [Je hi]
theorem i6 {env:En} {i j:Nat} {d:PyData} (h:j≠i):(dQ env i d)[j]?=env[j]?:=by
 unfold dQ;split <;> first | rfl | rw [IL (Ne.symm h)]
theorem l7 {env:En} {i:Nat} {d:PyData} (h:az env i=some d):env[i]?=some (.own d)\/env[i]?=some (.ino d):=by
 unfold az at h;split at h
 ·rename_i e;cases h;exact .inl e
 ·rename_i e;cases h;exact .inr e
 ·cases h
theorem Rel.chg (R:Rel K F0 H₀ I env σ H) (k:SmK env env') (hk:∀ b o,H b=some o->¬IA env σ b->H' b=some o) (ht:∀ i d a,az env' i=some d->σ[i]?=some (some (.ref a))->Top K (FF F0 env σ) H' d a):Rel K F0 H₀ I env' σ H':=by
 have p:=R.mR hk;have eF:=k.ff (F0:=F0) (σ:=σ);have eI:=k.ia (σ:=σ);have mc:∀ {i:Nat} {d:PyData},env'[i]?=some (.own d)\/env'[i]?=some (.ino d)->az env' i=some d:=fun {i d} h=>by
  unfold az;rcases h with h | h <;> rw [h]
 refine ⟨k.1.trans R.len,fun i d e=>?_,fun i d e=>?_,fun i d e=>?_,fun i d e=>?_,fun i j a h1 h2 h3 h4=>R.sep i j a (k.kp.mu h1) (k.kp.mu h2) h3 h4,fun b h=>?_,fun b o h n=>?_⟩
 ·rcases k.2 i with q | ⟨c,c',q,q'⟩ | ⟨c,c',q,q'⟩
  ·rw [e] at q;obtain ⟨v,s,r⟩:=R.dat i d q.symm;rw [eF];exact ⟨v,s,r.pr p fun _ z=>z⟩
  ·rw [e] at q';cases q'
  ·rw [e] at q';cases q'
 ·have hm:=mc (.inl e);obtain ⟨d0,e0⟩:=k.kp.own e;obtain ⟨a,s,n,w,_⟩:=R.own i d0 e0;rw [eF];exact ⟨a,s,n,w,ht i d a hm s⟩
 ·have hm:=mc (.inr e);have:∃ d0,env[i]?=some (.ino d0):=by
   rcases k.2 i with q | ⟨c,c',q,q'⟩ | ⟨c,c',q,q'⟩
   ·exact ⟨d,by rw [<- q];exact e⟩
   ·rw [e] at q';cases q'
   ·exact ⟨c,q⟩
  obtain ⟨d0,e0⟩:=this;obtain ⟨a,s,n,w,_⟩:=R.ino i d0 e0;rw [eF];exact ⟨a,s,n,w,ht i d a hm s⟩
 ·have e0:env[i]?=some (.ro d):=by
   rcases k.2 i with q | ⟨c,c',q,q'⟩ | ⟨c,c',q,q'⟩
   ·rw [<- q];exact e
   ·rw [e] at q';cases q'
   ·rw [e] at q';cases q'
  obtain ⟨a,s,t⟩:=R.ro i d e0;rw [eF,eI];exact ⟨a,s,t.pr p (fun _ z=>z) (fun _ z=>z) hk⟩
 ·by_cases z:IA env σ b
  ·obtain ⟨i,m,s⟩:=z;have m':=k.symm.kp.mu m;obtain ⟨d,m'⟩:=m';obtain ⟨o,q,_⟩:=(ht i d b (mc m') s).wr;rw [q];exact nofun
  ·cases e:H b with
   | none=>exact absurd e (R.dom b h)
   | some o=>rw [hk b o e z];exact nofun
 ·refine hk b o (R.b8 b o h n) fun z=>?_;rcases R.iaI z with q | q
  ·rw [h] at q;cases q
  ·exact n q
end
end L2
end
section
namespace L2
open PySem
section
variable {K:Fg} {F F' I I' F0:Addr->Prop} {H H' H₀:Hp} {env env':En} {σ σ':St} {ga:Nat->V} {gd:List PyData}
theorem get_set {α:Type} {l:List α} {i j:Nat} {x y:α} (h:(l.set i x)[j]?=some y):(i=j/\x=y)\/(i≠j/\l[j]?=some y):=by
 by_cases z:i=j
 ·subst z;by_cases hi:i < l.length
  ·rw [Je hi] at h;exact .inl ⟨rfl,JQ h⟩
  ·rw [Lh (by rw [JB];omega)] at h;cases h
 ·rw [IL z] at h;exact .inr ⟨z,h⟩
theorem Rel.sub (R:Rel K F0 H₀ I env σ H) (i:Nat) (x:Option V):(∀ b,FF F0 (env.set i .un) (σ.set i x) b->FF F0 env σ b)/\(∀ b,IA (env.set i .un) (σ.set i x) b->IA env σ b):=by
 constructor
 ·rintro b (h | ⟨j,d,e,s⟩)
  ·exact .inl h
  ·rcases get_set e with ⟨_,z⟩ | ⟨n,e⟩
   ·cases z
   ·rw [IL n] at s;exact .inr ⟨j,d,e,s⟩
 ·rintro b ⟨j,⟨d,e⟩,s⟩;have:∃ d,(env[j]?=some (.own d)\/env[j]?=some (.ino d))/\i≠j:=by
   rcases e with e | e
   ·rcases get_set e with ⟨_,z⟩ | ⟨n,e⟩
    ·cases z
    ·exact ⟨d,.inl e,n⟩
   ·rcases get_set e with ⟨_,z⟩ | ⟨n,e⟩
    ·cases z
    ·exact ⟨d,.inr e,n⟩
  obtain ⟨d,e,n⟩:=this;rw [IL n] at s;exact ⟨j,⟨d,e⟩,s⟩
theorem Rel.forget (R:Rel K F0 H₀ I env σ H) (i:Nat) (x:Option V):Rel K F0 H₀ I (env.set i .un) (σ.set i x) H:=by
 obtain ⟨hf,hi⟩:=R.sub i x;have mm:∀ j,mu (env.set i .un) j->mu env j/\i≠j:=fun j h=>by
  obtain ⟨d,e | e⟩:=h
  ·rcases get_set e with ⟨_,z⟩ | ⟨n,e⟩
   ·cases z
   ·exact ⟨⟨d,.inl e⟩,n⟩
  ·rcases get_set e with ⟨_,z⟩ | ⟨n,e⟩
   ·cases z
   ·exact ⟨⟨d,.inr e⟩,n⟩
 refine ⟨by rw [JB,JB];exact R.len,fun j d e=>?_,fun j d e=>?_,fun j d e=>?_,fun j d e=>?_,fun j k a h1 h2 h3 h4=>?_,R.dom,R.b8⟩
 ·rcases get_set e with ⟨_,z⟩ | ⟨n,e⟩
  ·cases z
  obtain ⟨v,s,r⟩:=R.dat j d e;exact ⟨v,by rw [IL n];exact s,r.mono hf⟩
 ·rcases get_set e with ⟨_,z⟩ | ⟨n,e⟩
  ·cases z
  obtain ⟨a,s,q,w,t⟩:=R.own j d e;exact ⟨a,by rw [IL n];exact s,q,w,t.pr Pr.refl hf fun _ z=>z⟩
 ·rcases get_set e with ⟨_,z⟩ | ⟨n,e⟩
  ·cases z
  obtain ⟨a,s,q,w,t⟩:=R.ino j d e;exact ⟨a,by rw [IL n];exact s,q,w,t.pr Pr.refl hf fun _ z=>z⟩
 ·rcases get_set e with ⟨_,z⟩ | ⟨n,e⟩
  ·cases z
  obtain ⟨a,s,t⟩:=R.ro j d e;exact ⟨a,by rw [IL n];exact s,t.pr Pr.refl hf hi fun _ _ z _=>z⟩
 ·obtain ⟨m1,n1⟩:=mm j h1;obtain ⟨m2,n2⟩:=mm k h2;rw [IL n1] at h3;rw [IL n2] at h4;exact R.sep j k a m1 m2 h3 h4
theorem hV {i:Nat} {s:Sl} {x:Option V} (hu:env[i]?=some .un) (hs:∀ d,s≠.own d):FF F0 (env.set i s) (σ.set i x)=FF F0 env σ:=by
 funext b;apply propext;constructor
 ·rintro (h | ⟨j,d,e,q⟩)
  ·exact .inl h
  ·rcases get_set e with ⟨_,z⟩ | ⟨n,e⟩
   ·exact absurd z (hs d)
   ·rw [IL n] at q;exact .inr ⟨j,d,e,q⟩
 ·rintro (h | ⟨j,d,e,q⟩)
  ·exact .inl h
  ·have n:i≠j:=fun z=>by subst z;rw [hu] at e;cases e
   exact .inr ⟨j,d,by rw [IL n];exact e,by rw [IL n];exact q⟩
theorem se {i:Nat} {s:Sl} {x:Option V} (hu:env[i]?=some .un) (hs:∀ d,s≠.own d/\s≠.ino d):IA (env.set i s) (σ.set i x)=IA env σ:=by
 funext b;apply propext;constructor
 ·rintro ⟨j,⟨d,e | e⟩,q⟩
  ·rcases get_set e with ⟨_,z⟩ | ⟨n,e⟩
   ·exact absurd z (hs d).1
   ·rw [IL n] at q;exact ⟨j,⟨d,.inl e⟩,q⟩
  ·rcases get_set e with ⟨_,z⟩ | ⟨n,e⟩
   ·exact absurd z (hs d).2
   ·rw [IL n] at q;exact ⟨j,⟨d,.inr e⟩,q⟩
 ·rintro ⟨j,⟨d,e⟩,q⟩;have n:i≠j:=fun z=>by subst z;rw [hu] at e;rcases e with e | e <;> cases e
  refine ⟨j,⟨d,?_⟩,by rw [IL n];exact q⟩;rw [IL n];exact e
theorem Rel.putD (R:Rel K F0 H₀ I env σ H) {i:Nat} {d:PyData} {v:V} (hu:env[i]?=some .un) (h:Dm K (FF F0 env σ) H d v):Rel K F0 H₀ I (env.set i (.dat d)) (σ.set i (some v)) H:=by
 have hi:i < env.length:=(IK.mp hu).1;have eF:FF F0 (env.set i (.dat d)) (σ.set i (some v))=FF F0 env σ:=hV hu (fun _=>nofun);have eI:IA (env.set i (.dat d)) (σ.set i (some v))=IA env σ:=se hu (fun _=>⟨nofun,nofun⟩);have mm:∀ j,mu (env.set i (.dat d)) j->mu env j/\i≠j:=fun j h=>by
  obtain ⟨c,e | e⟩:=h
  ·rcases get_set e with ⟨_,z⟩ | ⟨n,e⟩
   ·cases z
   ·exact ⟨⟨c,.inl e⟩,n⟩
  ·rcases get_set e with ⟨_,z⟩ | ⟨n,e⟩
   ·cases z
   ·exact ⟨⟨c,.inr e⟩,n⟩
 refine ⟨by rw [JB,JB];exact R.len,fun j c e=>?_,fun j c e=>?_,fun j c e=>?_,fun j c e=>?_,fun j k a h1 h2 h3 h4=>?_,R.dom,R.b8⟩
 ·rw [eF];rcases get_set e with ⟨z,y⟩ | ⟨n,e⟩
  ·subst z;cases y;exact ⟨v,Je (by rw [<- R.len];exact hi),h⟩
  obtain ⟨w,s,r⟩:=R.dat j c e;exact ⟨w,by rw [IL n];exact s,r⟩
 ·rw [eF];rcases get_set e with ⟨_,z⟩ | ⟨n,e⟩
  ·cases z
  obtain ⟨a,s,q,w,t⟩:=R.own j c e;exact ⟨a,by rw [IL n];exact s,q,w,t⟩
 ·rw [eF];rcases get_set e with ⟨_,z⟩ | ⟨n,e⟩
  ·cases z
  obtain ⟨a,s,q,w,t⟩:=R.ino j c e;exact ⟨a,by rw [IL n];exact s,q,w,t⟩
 ·rw [eF,eI];rcases get_set e with ⟨_,z⟩ | ⟨n,e⟩
  ·cases z
  obtain ⟨a,s,t⟩:=R.ro j c e;exact ⟨a,by rw [IL n];exact s,t⟩
 ·obtain ⟨m1,n1⟩:=mm j h1;obtain ⟨m2,n2⟩:=mm k h2;rw [IL n1] at h3;rw [IL n2] at h4;exact R.sep j k a m1 m2 h3 h4
theorem Rel.Gp {i:Nat} {d:PyData} {a:Addr} (hu:env[i]?=some .un) (h:cP K F0 H₀ I env σ H (.frs d) (.ref a)):Rel K F0 H₀ I (env.set i (.own d)) (σ.set i (some (.ref a))) H:=by
 obtain ⟨a',ea,R,t,w,nF,hino,hro⟩:=h;cases ea;have hi:i < env.length:=(IK.mp hu).1;have his:i < σ.length:=by rw [<- R.len];exact hi
 have eF:FF F0 (env.set i (.own d)) (σ.set i (some (.ref a)))=fun b=>FF F0 env σ b\/b=a:=by
  funext b;apply propext;constructor
  ·rintro (h | ⟨j,c,e,q⟩)
   ·exact .inl (.inl h)
   ·rcases get_set e with ⟨z,y⟩ | ⟨n,e⟩
    ·subst z;rw [Je his] at q;cases q;exact .inr rfl
    ·rw [IL n] at q;exact .inl (.inr ⟨j,c,e,q⟩)
  ·rintro ((h | ⟨j,c,e,q⟩) | rfl)
   ·exact .inl h
   ·have n:i≠j:=fun z=>by subst z;rw [hu] at e;cases e
    exact .inr ⟨j,c,by rw [IL n];exact e,by rw [IL n];exact q⟩
   ·exact .inr ⟨i,d,Je hi,Je his⟩
 have eF2:FF (fun b=>F0 b\/b=a) env σ=fun b=>FF F0 env σ b\/b=a:=dO;have mm:∀ j,mu (env.set i (.own d)) j->i=j\/(mu env j/\i≠j):=fun j h=>by
  obtain ⟨c,e | e⟩:=h
  ·rcases get_set e with ⟨z,_⟩ | ⟨n,e⟩
   ·exact .inl z
   ·exact .inr ⟨⟨c,.inl e⟩,n⟩
  ·rcases get_set e with ⟨z,_⟩ | ⟨n,e⟩
   ·exact .inl z
   ·exact .inr ⟨⟨c,.inr e⟩,n⟩
 have eI:∀ b,IA (env.set i (.own d)) (σ.set i (some (.ref a))) b->IA env σ b\/b=a:=by
  rintro b ⟨j,m,q⟩;rcases mm j m with z | ⟨m',n⟩
  ·subst z;rw [Je his] at q;cases q;exact .inr rfl
  ·rw [IL n] at q;exact .inl ⟨j,m',q⟩
 have na:∀ j,mu env j->σ[j]?≠some (some (.ref a)):=fun j m q=>by
  obtain ⟨c,e | e⟩:=m
  ·exact nF (.inr ⟨j,c,e,q⟩)
  ·exact hino j c e q
 refine ⟨by rw [JB,JB];exact R.len,fun j c e=>?_,fun j c e=>?_,fun j c e=>?_,fun j c e=>?_,fun j k b h1 h2 h3 h4=>?_,fun b h=>R.dom b (.inl h),R.b8⟩
 ·rw [eF];rcases get_set e with ⟨_,z⟩ | ⟨n,e⟩
  ·cases z
  obtain ⟨x,s,r⟩:=R.dat j c e;rw [eF2] at r;exact ⟨x,by rw [IL n];exact s,r⟩
 ·rw [eF];rcases get_set e with ⟨z,y⟩ | ⟨n,e⟩
  ·subst z;cases y;exact ⟨a,Je his,fun z=>nF (.inl z),w,t⟩
  obtain ⟨b,s,q,w',t'⟩:=R.own j c e;rw [eF2] at t';exact ⟨b,by rw [IL n];exact s,fun z=>q (.inl z),w',t'⟩
 ·rw [eF];rcases get_set e with ⟨_,z⟩ | ⟨n,e⟩
  ·cases z
  obtain ⟨b,s,q,w',t'⟩:=R.ino j c e;rw [eF2] at t';refine ⟨b,by rw [IL n];exact s,?_,w',t'⟩;rcases q with q | q
  ·exact q
  ·subst q;exact absurd s (hino j c e)
 ·rw [eF];rcases get_set e with ⟨_,z⟩ | ⟨n,e⟩
  ·cases z
  obtain ⟨b,s,t'⟩:=hro j c e;exact ⟨b,by rw [IL n];exact s,t'.pr Pr.refl (fun _ z=>z) eI fun _ _ z _=>z⟩
 ·rcases mm j h1 with z1 | ⟨m1,n1⟩
  ·rcases mm k h2 with z2 | ⟨m2,n2⟩
   ·rw [<- z1,<-z2]
   ·rw [<- z1,Je his] at h3;cases h3;rw [IL n2] at h4;exact absurd h4 (na k m2)
  ·rw [IL n1] at h3;rcases mm k h2 with z2 | ⟨m2,n2⟩
   ·rw [<- z2,Je his] at h4;cases h4;exact absurd h3 (na j m1)
   ·rw [IL n2] at h4;exact R.sep j k b m1 m2 h3 h4
theorem Rel.take (R:Rel K F0 H₀ I env σ H) {i:Nat} {d:PyData} (e:env[i]?=some (.own d)):∃ a,σ[i]?=some (some (.ref a))/\cP K F0 H₀ I (env.set i .un) σ H (.frs d) (.ref a):=by
 obtain ⟨a,s,nF0,w,t⟩:=R.own i d e;have hi:i < env.length:=(IK.mp e).1;have mm:∀ j,mu (env.set i .un) j->mu env j/\i≠j:=fun j h=>by
  obtain ⟨c,e | e⟩:=h
  ·rcases get_set e with ⟨_,z⟩ | ⟨n,e⟩
   ·cases z
   ·exact ⟨⟨c,.inl e⟩,n⟩
  ·rcases get_set e with ⟨_,z⟩ | ⟨n,e⟩
   ·cases z
   ·exact ⟨⟨c,.inr e⟩,n⟩
 have eF:FF F0 env σ=fun b=>FF F0 (env.set i .un) σ b\/b=a:=by
  funext b;apply propext;constructor
  ·rintro (h | ⟨j,c,e',q⟩)
   ·exact .inl (.inl h)
   ·by_cases n:i=j
    ·subst n;rw [s] at q;cases q;exact .inr rfl
    ·exact .inl (.inr ⟨j,c,by rw [IL n];exact e',q⟩)
  ·rintro ((h | ⟨j,c,e',q⟩) | rfl)
   ·exact .inl h
   ·rcases get_set e' with ⟨_,z⟩ | ⟨n,e'⟩
    ·cases z
    ·exact .inr ⟨j,c,e',q⟩
   ·exact .inr ⟨i,d,e,s⟩
 have eF2:FF (fun b=>F0 b\/b=a) (env.set i .un) σ=FF F0 env σ:=by rw [dO];exact eF.symm
 have na:∀ j,mu (env.set i .un) j->σ[j]?≠some (some (.ref a)):=fun j m q=>by
  obtain ⟨m',n⟩:=mm j m;exact n (R.sep i j a ⟨d,.inl e⟩ m' s q)
 have nF:¬FF F0 (env.set i .un) σ a:=by
  rintro (h | ⟨j,c,e',q⟩)
  ·exact nF0 h
  ·exact na j ⟨c,.inl e'⟩ q
 have ia:∀ b,IA (env.set i .un) σ b->IA env σ b:=fun b ⟨j,m,q⟩=>⟨j,(mm j m).1,q⟩;have ia2:∀ b,(IA (env.set i .un) σ b\/b=a)->IA env σ b:=fun b h=>h.elim (ia b) fun z=>z▸⟨i,⟨d,.inl e⟩,s⟩;have R':Rel K (fun b=>F0 b\/b=a) H₀ I (env.set i .un) σ H:=by
  refine ⟨by rw [JB];exact R.len,fun j c e'=>?_,fun j c e'=>?_,fun j c e'=>?_,fun j c e'=>?_,fun j k b h1 h2 h3 h4=>R.sep j k b (mm j h1).1 (mm k h2).1 h3 h4,fun b h=>?_,R.b8⟩
  ·rw [eF2];rcases get_set e' with ⟨_,z⟩ | ⟨n,e'⟩
   ·cases z
   exact R.dat j c e'
  ·rw [eF2];have m:=e';rcases get_set e' with ⟨_,z⟩ | ⟨n,e'⟩
   ·cases z
   obtain ⟨b,s',q,w',t'⟩:=R.own j c e';exact ⟨b,s',fun z=>z.elim q fun z=>na j ⟨c,.inl m⟩ (z▸s'),w',t'⟩
  ·rw [eF2];rcases get_set e' with ⟨_,z⟩ | ⟨n,e'⟩
   ·cases z
   obtain ⟨b,s',q,w',t'⟩:=R.ino j c e';exact ⟨b,s',.inl q,w',t'⟩
  ·rw [eF2];rcases get_set e' with ⟨_,z⟩ | ⟨n,e'⟩
   ·cases z
   obtain ⟨b,s',t'⟩:=R.ro j c e';exact ⟨b,s',t'.pr Pr.refl (fun _ z=>z) ia fun _ _ z _=>z⟩
  ·rcases h with h | h
   ·exact R.dom b h
   ·obtain ⟨o,q,_⟩:=t.wr;rw [h,q];exact nofun
 refine ⟨a,s,a,rfl,R',by rw [eF] at t;exact t,w,nF,fun j c e'=>na j ⟨c,.inr e'⟩,fun j c e'=>?_⟩;rcases get_set e' with ⟨_,z⟩ | ⟨n,e'⟩
 ·cases z
 obtain ⟨b,s',t'⟩:=R.ro j c e';rw [eF] at t';exact ⟨b,s',t'.pr Pr.refl (fun _ z=>z) ia2 fun _ _ z _=>z⟩
theorem cP.rel {d:PyData} {v:V} (h:cP K F0 H₀ I env σ H (.frs d) v):Rel K F0 H₀ I env σ H:=by
 obtain ⟨a,_,R,_,_,_,hi,_⟩:=h;exact R.less hi
theorem set_same {α:Type} {l:List α} {i:Nat} {x:α} (h:l[i]?=some x):l.set i x=l:=by
 have hi:i < l.length:=(IK.mp h).1;apply LJ;intro j;by_cases z:i=j
 ·subst z;rw [Je hi,h]
 ·rw [IL z]
theorem Rel.mov (R:Rel K F0 H₀ I env σ H) {i:Nat} {d:PyData} (e:env[i]?=some (.own d)):∃ a,σ[i]?=some (some (.ref a))/\Rel K F0 H₀ I (env.set i (.dat d)) σ H/\Dm K (FF F0 (env.set i (.dat d)) σ) H d (.ref a):=by
 have hi:i < env.length:=(IK.mp e).1;obtain ⟨a,s,h⟩:=R.take e;have R1:=h.rel;have hu:(env.set i .un)[i]?=some .un:=Je hi;have hd:Dm K (FF F0 (env.set i .un) σ) H d (.ref a):=cP.av h;have R2:=R1.putD hu hd;rw [Kr,set_same s] at R2;refine ⟨a,s,R2,?_⟩;have eF:FF F0 (env.set i (.dat d)) σ=FF F0 (env.set i .un) σ:=by
  have:=hV (F0:=F0) (σ:=σ) (s:=.dat d) (x:=some (.ref a)) hu (fun _=>nofun);rw [Kr,set_same s] at this;exact this
 rw [eF];exact hd
theorem wq {i:Nat} {s s':Sl} (e:env[i]?=some s) (v:Evo s s'):KpE env (env.set i s'):=by
 have hi:i < env.length:=(IK.mp e).1;refine ⟨JB,fun j t h=>?_⟩;by_cases z:i=j
 ·subst z;rw [e] at h;cases h;exact ⟨s',Je hi,v⟩
 ·exact ⟨t,by rw [IL z];exact h,.refl t⟩
end
end L2
end
section
namespace L2
open PySem
theorem fP (x y:Str):(x++y).cps=x.cps++y.cps:=rfl
theorem j4 {x y:Str} (h:PyData.strOk x=true) (q:PyData.strOk y=true):PyData.strOk (x++y)=true:=by
 unfold PyData.strOk at h q ⊢;rw [fP,Array.all_append,h,q];rfl
noncomputable def SE (K:Fg) (ga:Nat->V) (gd:List PyData) (e:XE):Prop:=∀ (env:En) (rv:RV) (env':En),dE gd e env=some (rv,env')->∀ (F0:Addr->Prop) (H₀:Hp) (I:Addr->Prop) (σ:St) (H:Hp) (Q:VK),Rel K F0 H₀ I env σ H ->
 (∀ v H',Rel K F0 H₀ I env' σ H'->KpE env env'->cP K F0 H₀ I env' σ H' rv v->Q v H')->rE K ga e σ H Q
noncomputable def SA (K:Fg) (ga:Nat->V) (gd:List PyData) (e:XA):Prop:=∀ (env:En) (rv:List AV) (env':En),dA gd e env=some (rv,env')->∀ (F0:Addr->Prop) (H₀:Hp) (I:Addr->Prop) (σ:St) (H:Hp) (Q:List V->Hp->Prop),Rel K F0 H₀ I env σ H ->
 (∀ v H',Rel K F0 H₀ I env' σ H'->KpE env env'->fj K F0 env' σ H' rv v->Q v H')->rA K ga e σ H Q
noncomputable def SF (K:Fg) (ga:Nat->V) (gd:List PyData) (e:XA):Prop:=∀ (out:Str) (env:En) (x:Str) (env':En),dF gd e out env=some (x,env')->∀ (F0:Addr->Prop) (H₀:Hp) (I:Addr->Prop) (σ:St) (H:Hp) (Q:VK),Rel K F0 H₀ I env σ H ->
 PyData.strOk out=true->(∀ H',Rel K F0 H₀ I env' σ H'->KpE env env'->x.length<=sizeLine->PyData.strOk x=true->Q (.str x) H')->tFs (rF K ga e) out σ H Q
noncomputable def BK (K:Fg) (F:Addr->Prop) (H:Hp):List (Key×PyData)->List (Key×V)->Prop
 | [],vs=>vs=[]
 | (k,d) :: ds,vs=>∃ v r,vs=(k,v) :: r/\Dm K F H (kD k) (kV k)/\Dm K F H d v/\BK K F H ds r
noncomputable def SPs (K:Fg) (ga:Nat->V) (gd:List PyData) (e:XP):Prop:=∀ (env:En) (kvs:List (Key×PyData)) (env':En),dP gd e env=some (kvs,env')->∀ (F0:Addr->Prop) (H₀:Hp) (I:Addr->Prop) (σ:St) (H:Hp) (Q:List (V×V)->Hp->Prop),Rel K F0 H₀ I env σ H ->
 (∀ vs H',Rel K F0 H₀ I env' σ H'->KpE env env'->BK K (FF F0 env' σ) H' kvs vs->Q (vs.map fun kv=>(kV kv.1,kv.2)) H')->mZ (rP K ga e) σ H Q
noncomputable def ST (K:Fg) (ga:Nat->V) (gd:List PyData) (e:XT):Prop:=∀ (env:En) (b:Bool) (env':En),dT gd e env=some (b,env')->∀ (F0:Addr->Prop) (H₀:Hp) (I:Addr->Prop) (σ:St) (H:Hp) (Q:Bool->Hp->Prop),Rel K F0 H₀ I env σ H ->
 (∀ H',Rel K F0 H₀ I env' σ H'->KpE env env'->Q b H')->rT K ga e σ H Q
noncomputable def ItY (K:Fg) (F:Addr->Prop) (H H' H'':Hp) (d:PyData) (x:V):Prop:=(H''=H'/\Dm K F H d x)\/∃ p u v d1 d2,d=.tuple [d1,d2]/\x=.ref p/\H' p=none/\H''=upd H' p (.tup [u,v])/\Dm K F H d1 u/\Dm K F H d2 v
theorem ItY.dm {K:Fg} {F F2:Addr->Prop} {H H' H'':Hp} {d:PyData} {x:V} (h:ItY K F H H' H'' d x) (T:∀ d v,Dm K F H d v->Dm K F2 H' d v):aw H' H''/\Dm K F2 H'' d x:=by
 rcases h with ⟨rfl,h⟩ | ⟨p,u,v,d1,d2,rfl,rfl,hp,rfl,h1,h2⟩
 ·exact ⟨fun _ _ e=>e,T _ _ h⟩
 ·have sm:aw H' (upd H' p (.tup [u,v])):=fun b o e=>by rw [ae (fun z=>by rw [z,hp] at e;cases e)];exact e
  refine ⟨sm,p,[u,v],rfl,SqT.of ag,Nat.le_of_ble_eq_true rfl,u,_,rfl,?_,v,_,rfl,?_,rfl⟩
  ·exact (T _ _ h1).pr (fun b o e _=>sm b o e) fun _ z=>z
  ·exact (T _ _ h2).pr (fun b o e _=>sm b o e) fun _ z=>z
noncomputable def uh (K:Fg) (F I:Addr->Prop) (H:Hp) (J:It) (ds:List PyData):Prop:=ds.length<=sizeLine/\∀ H',(∀ b o,H b=some o->¬I b->H' b=some o)->∀ k,(k < ds.length->J.go k H'/\∀ x H'',J.yld k H' x H''->∃ d,ds[k]?=some d/\ItY K F H H' H'' d x)/\(ds.length<=k->J.stop k H')
theorem gC {K:Fg} {F I:Addr->Prop} {H:Hp} {J:It} {ds:List PyData} {vs:List V} (hd:DmL K F H ds vs) (hl:vs.length<=sizeLine) (h:∀ H',(∀ b o,H b=some o->¬I b->H' b=some o)->∀ k,(k < vs.length->J.go k H'/\∀ x H'',J.yld k H' x H''->H''=H'/\vs[k]?=some x)/\(vs.length<=k->J.stop k H')):uh K F I H J ds:=by
 have e:=hd.len;refine ⟨by omega,fun H' k j=>⟨fun hj=>?_,fun hj=>((h H' k j).2 (by omega))⟩⟩;obtain ⟨g,y⟩:=(h H' k j).1 (by omega);refine ⟨g,fun x H'' hx=>?_⟩;obtain ⟨e0,hx2⟩:=y x H'' hx;obtain ⟨d,h1,h2⟩:=hd.get' hx2;exact ⟨d,h1,.inl ⟨e0,h2⟩⟩
noncomputable def SI (K:Fg) (ga:Nat->V) (gd:List PyData) (e:XI):Prop:=∀ (env:En) (ds:List PyData) (lock:Option Nat) (env':En),dI gd e env=some (ds,lock,env')->∀ (F0:Addr->Prop) (H₀:Hp) (I:Addr->Prop) (σ:St) (H:Hp) (R:It->Hp->Prop),Rel K F0 H₀ I env σ H ->
 (∀ J H',Rel K F0 H₀ I env' σ H'->KpE env env'->(∀ i,lock=some i->∃ d,cont env' i=some d)->uh K (FF F0 env' σ) (fun b=>IA env' σ b/\∀ i,lock=some i->mu env' i->σ[i]?≠some (some (.ref b))) H' J ds->R J H')->rI_ K ga e σ H R
section
variable {K:Fg} {F F' I I' F0:Addr->Prop} {H H' H₀:Hp} {env env':En} {σ σ':St} {ga:Nat->V} {gd:List PyData}
theorem Ge (i:Nat):SE K ga gd (.var i):=by
 intro env rv env' h F0 H₀ I σ H Q R q;simp only [dE] at h;split at h
 ·rename_i d e;cases h;obtain ⟨v,s,r⟩:=R.dat i d e;exact ⟨v,s,q v H R (KpE.refl _) r⟩
 ·rename_i d e;cases h;obtain ⟨a,s,_⟩:=R.own i d e;exact ⟨_,s,q _ H R (KpE.refl _) s⟩
 ·rename_i d e;cases h;obtain ⟨a,s,_⟩:=R.ino i d e;exact ⟨_,s,q _ H R (KpE.refl _) s⟩
 ·rename_i d e;cases h;obtain ⟨a,s,_⟩:=R.ro i d e;exact ⟨_,s,q _ H R (KpE.refl _) s⟩
 ·cases h
theorem Ee (i:Nat):SE K ga gd (.mov i):=by
 intro env rv env' h F0 H₀ I σ H Q R q;simp only [dE] at h;split at h
 ·rename_i d e;cases h;obtain ⟨a,s,R',r⟩:=R.mov e;exact ⟨_,s,q _ H R' (wq e (.inr (.inl ⟨d,rfl⟩))) r⟩
 ·cases h
theorem FV (i:Nat):SE K ga gd (.tke i):=by
 intro env rv env' h F0 H₀ I σ H Q R q;simp only [dE] at h;split at h
 ·rename_i d e;cases h;obtain ⟨a,s,r⟩:=R.take e;exact ⟨_,s,q _ H r.rel (wq e (.inr (.inr rfl))) r⟩
 ·cases h
theorem Dj (c:Cst):SE K ga gd (.cst c):=by
 intro env rv env' h F0 H₀ I σ H Q R q;simp only [dE] at h;cases h;exact q _ H R (KpE.refl _) (c.ok _ _ _)
theorem Gi (hg:∀ g d,gd[g]?=some d->∀ F H,Dm K F H d (ga g)) (g:Nat):SE K ga gd (.glb g):=by
 intro env rv env' h F0 H₀ I σ H Q R q;simp only [dE] at h;split at h
 ·rename_i d e;cases h;exact q _ H R (KpE.refl _) (hg g d e _ _)
 ·cases h
theorem FY {p:Prm} {as:XA} (ih:SA K ga gd as):SE K ga gd (.prm p as):=by
 intro env rv env' h F0 H₀ I σ H Q R q;simp only [dE] at h;split at h
 ·rename_i avs e1 h1;split at h
  ·rename_i ds h2;split at h
   ·rename_i pr h3;cases h;refine ih _ _ _ h1 F0 H₀ I σ H _ R fun vs H1 R1 k1 a1=>?_;refine p.ok K _ H1 ds vs pr Q h3 (a1.vw R1 h2) (fun b z=>R1.cN z) fun v H2 s2 hp=>?_;exact q v H2 (R1.same s2) k1 (R1.ko s2 hp)
   ·cases h
  ·cases h
 ·cases h
theorem Ew {m:Mtd} {o:XE} {as:XA} (io:SE K ga gd o) (ih:SA K ga gd as):SE K ga gd (.met m o as):=by
 intro env rv env' h F0 H₀ I σ H Q R q;simp only [dE] at h;split at h
 ·rename_i rv0 e1 h1;split at h
  ·rename_i d0 h2;split at h
   ·rename_i hty;split at h
    ·rename_i avs e2 h3;split at h
     ·rename_i d ds h4 h5;split at h
      ·rename_i pr h6;cases h;refine io _ _ _ h1 F0 H₀ I σ H _ R fun v H1 R1 k1 a1=>?_;refine ⟨m.yi K _ H1 d0 v hty (a1.av.vw R1 h2),?_⟩;refine ih _ _ _ h3 F0 _ _ σ H1 _ R1.rebase fun vs H2 S2 k2 a2=>?_;have R2:=R1.aK S2;refine m.ok K _ H2 d v ds vs pr Q h6 ((a1.av.keep R1 S2 k2).vw R2 h4) (a2.vw R2 h5) (fun b z=>R2.cN z) fun v H3 s3 hp=>?_;exact q v H3 (R2.same s3) (k1.trans k2) (R2.ko s3 hp)
      ·cases h
     ·cases h
    ·cases h
   ·cases h
  ·cases h
 ·cases h
theorem Rel.GX (R:Rel K F0 H₀ I env σ H) {i:Nat} {d d':PyData} {a:Addr} (hm:az env i=some d) (s:σ[i]?=some (some (.ref a))) (hk:∀ b o,b≠a->H b=some o->H' b=some o) (ht:Top K (FF F0 env σ) H' d' a):Rel K F0 H₀ I (dQ env i d') σ H':=by
 obtain ⟨m,a',s',_,_⟩:=R.bW hm;rw [s] at s';cases s';have hia:IA env σ a:=⟨i,m,s⟩;refine R.chg (cK env i d') (fun b o e n=>hk b o (fun z=>n (z▸hia)) e) fun j c b hc hs=>?_;by_cases z:j=i
 ·subst z;rw [ji m] at hc;cases hc;rw [s] at hs;cases hs;exact ht
 ·have hc':az env j=some c:=by
   unfold az at hc ⊢
   rwa [i6 z] at hc
  obtain ⟨m2,b',s2,_,t2⟩:=R.bW hc';rw [hs] at s2;cases s2;have nb:b≠a:=fun y=>z (R.sep j i a m2 m (y▸hs) s);refine t2.pr (R.mR fun b' o e n=>hk b' o (fun z=>n (z▸hia)) e) (fun _ z=>z) fun o e=>hk b o nb e
theorem Df {m:Mtr} {i:Nat} {as:XA} (ih:SA K ga gd as):SE K ga gd (.mtr m i as):=by
 intro env rv env' h F0 H₀ I σ H Q R q;simp only [dE] at h;split at h
 ·rename_i d0 h0;split at h
  ·rename_i hty;split at h
   ·rename_i avs e1 h1;split at h
    ·rename_i d ds h2 h3;split at h
     ·rename_i d' pr h4;cases h;obtain ⟨_,a,s,f,t⟩:=R.bW h0;refine ⟨.ref a,s,m.yi K _ H d0 a hty t,?_⟩;refine ih _ _ _ h1 F0 H₀ I σ H _ R fun vs H1 R1 k1 a1=>?_;obtain ⟨m1,a',s',f1,t1⟩:=R1.bW h2;rw [s] at s';cases s';refine m.ok K _ H1 d a ds vs d' pr Q h4 f1 t1 (a1.mv R1 h3) fun v H2 hk ht hp=>?_;refine q v H2 (R1.GX h2 s hk ht) (k1.trans (pG _ _ _)) ?_;show Dm K (FF F0 (dQ e1 i d') σ) H2 pr v;rw [(cK e1 i d').ff (F0:=F0) (σ:=σ)];exact hp
     ·cases h
    ·cases h
   ·cases h
  ·cases h
 ·cases h
noncomputable def adr (σ:St) (i:Nat):Addr:=match σ[i]? with | some (some (.ref a))=>a | _=>0
theorem eK {i:Nat} {a:Addr} (h:σ[i]?=some (some (.ref a))):adr σ i=a:=by unfold adr;rw [h]
theorem iI {ms:List PM} {as:List AV} {ds:List PyData} {m:PM} {a:AV} (h:gU env (m :: ms) (a :: as)=some ds):∃ d r,ds=d :: r/\DZ env m a=some d/\gU env ms as=some r:=by
 unfold gU at h;split at h
 ·rename_i d r e1 e2;cases h;exact ⟨d,r,rfl,e1,e2⟩
 ·cases h
theorem df.bor {G I:Addr->Prop} {d:PyData} {a:Addr} (h:df K G I H d a):yI K G I H d (.ref a):=by cases d <;> first | exact ⟨a,rfl,h⟩ | exact absurd h id
theorem Ah (R:Rel K F0 H₀ I env σ H) (all:List Nat) (hall:∀ i∈all,mu env i):∀ {ms:List PM} {as:List AV} {ds:List PyData} {vs:List V},gU env ms as=some ds->fj K F0 env σ H as vs->(bJ ms as).Nodup->(∀ i∈ph ms as,i ∉ all)->(∀ i∈bJ ms as,i∈all) ->
  a9 K (FF F0 env σ) (·∈all.map (adr σ)) H ms ds vs ((bJ ms as).map (adr σ)):=by
 have iAll:∀ b,b∈all.map (adr σ)->IA env σ b:=fun b hb=>by
  obtain ⟨i,hi,e⟩:=Jz.mp hb;have m:=hall i hi;obtain ⟨d,m'⟩:=m;have:∃ a,σ[i]?=some (some (.ref a)):=by
   rcases m' with z | z
   ·obtain ⟨a,s,_⟩:=R.own i d z;exact ⟨a,s⟩
   ·obtain ⟨a,s,_⟩:=R.ino i d z;exact ⟨a,s⟩
  obtain ⟨a,s⟩:=this;rw [eK s] at e;subst e;exact ⟨i,hall i hi,s⟩
 intro ms;induction ms with
 | nil =>
  intro as ds vs h q _ _ _;cases as with
  | nil=>cases h;rw [show vs=[] from q];rfl
  | cons a as=>cases h
 | cons m ms ih =>
  intro as ds vs h q nd hb hi;cases as with
  | nil=>cases h
  | cons a as =>
   obtain ⟨d,r,rfl,h1,h2⟩:=iI h;obtain ⟨v,vr,rfl,q1,q2⟩:=q;cases m with
   | dat =>
    cases a with
    | bor i=>cases h1
    | dat d' =>
     cases h1;exact ⟨q1,ih h2 q2 (by simpa [bJ] using nd) (by simpa [ph] using hb) (by simpa [bJ] using hi)⟩
   | bor =>
    cases a with
    | dat d' =>
     by_cases ct:∃ ts,d'=.tuple ts
     ·obtain ⟨ts,rfl⟩:=ct;cases h1;exact ⟨q1,ih h2 q2 (by simpa [bJ] using nd) (by simpa [ph] using hb) (by simpa [bJ] using hi)⟩
     have l:d'=d/\((∃ ds,d=.list ds)\/∃ ds,d=.dict ds):=by
      cases d' <;> first | exact absurd ⟨_,rfl⟩ ct | (cases h1;exact ⟨rfl,.inl ⟨_,rfl⟩⟩) | (cases h1;exact ⟨rfl,.inr ⟨_,rfl⟩⟩) | cases h1
     obtain ⟨rfl,l⟩:=l;obtain ⟨b,e,t⟩:=Dm.ro (I:=(·∈all.map (adr σ))) q1 (fun b z=>R.ia (iAll b z)) l;exact ⟨by rcases l with ⟨_,rfl⟩ | ⟨_,rfl⟩ <;> exact ⟨b,e,t⟩,ih h2 q2 (by simpa [bJ] using nd) (by simpa [ph] using hb) (by simpa [bJ] using hi)⟩
    | bor i =>
     have h1:cont env i=some d:=h1;have hb':i ∉ all:=hb i (by simp [ph]);refine ⟨?_,ih h2 q2 (by simpa [bJ] using nd) (fun j hj=>hb j (by simp [ph,hj])) (by simpa [bJ] using hi)⟩;unfold cont at h1;have na:∀ a,mu env i->σ[i]?=some (some (.ref a))->a ∉ all.map (adr σ):=fun a m s z=>by
      obtain ⟨j,hj,e⟩:=Jz.mp z;obtain ⟨k,mk,sk⟩:=iAll a z;obtain ⟨dj,mj⟩:=hall j hj;have:∃ c,σ[j]?=some (some (.ref c)):=by
       rcases mj with z | z
       ·obtain ⟨a,s,_⟩:=R.own j dj z;exact ⟨a,s⟩
       ·obtain ⟨a,s,_⟩:=R.ino j dj z;exact ⟨a,s⟩
      obtain ⟨c,sj⟩:=this;rw [eK sj] at e;subst e;have:=R.sep i j c m ⟨dj,mj⟩ s sj;subst this;exact hb' hj
     split at h1
     ·rename_i d' e;cases h1;obtain ⟨a,s,_,_,t⟩:=R.own i d e;rw [show σ[i]?=some (some v) from q1] at s;cases s;exact df.bor (t.ro (na a ⟨d,.inl e⟩ q1))
     ·rename_i d' e;cases h1;obtain ⟨a,s,_,_,t⟩:=R.ino i d e;rw [show σ[i]?=some (some v) from q1] at s;cases s;exact df.bor (t.ro (na a ⟨d,.inr e⟩ q1))
     ·rename_i d' e;cases h1;obtain ⟨a,s,t⟩:=R.ro i d e;rw [show σ[i]?=some (some v) from q1] at s;cases s;exact df.bor (t.pr Pr.refl (fun _ z=>z) iAll fun _ _ z _=>z)
     ·cases h1
   | ino =>
    cases a with
    | dat d'=>cases h1
    | bor i =>
     have h1:az env i=some d:=h1;obtain ⟨m,b,s,f,t⟩:=R.bW h1;rw [show σ[i]?=some (some v) from q1] at s;cases s;have nd':i ∉ bJ ms as/\(bJ ms as).Nodup:=by simpa [bJ] using nd
     refine ⟨b,(bJ ms as).map (adr σ),rfl,by simp [bJ,eK q1],f,t,fun z=>?_,ih h2 q2 nd'.2 (by simpa [ph] using hb) (fun j hj=>hi j (by simp [bJ,hj]))⟩;obtain ⟨j,hj,e⟩:=Jz.mp z;obtain ⟨dj,mj⟩:=hall j (hi j (by simp [bJ,hj]));have:∃ c,σ[j]?=some (some (.ref c)):=by
      rcases mj with z | z
      ·obtain ⟨a,s,_⟩:=R.own j dj z;exact ⟨a,s⟩
      ·obtain ⟨a,s,_⟩:=R.ino j dj z;exact ⟨a,s⟩
     obtain ⟨c,sj⟩:=this;rw [eK sj] at e;subst e;have:=R.sep i j c m ⟨dj,mj⟩ q1 sj;subst this;exact nd'.1 hj
theorem rM:∀ {ms:List PM} {as:List AV} {ds:List PyData},gU env ms as=some ds->∀ i∈bJ ms as,mu env i
 | [],[],_,_,i,h=>by simp [bJ] at h
 | [],_ :: _,_,h,_,_=>by cases h
 | _ :: _,[],_,h,_,_=>by cases h
 | m :: ms,a :: as,_,h,i,hi=>by
  obtain ⟨d,r,rfl,h1,h2⟩:=iI h;have ih:=rM h2 i;cases m with
  | dat=>exact ih (by simpa [bJ] using hi)
  | bor=>exact ih (by simpa [bJ] using hi)
  | ino =>
   cases a with
   | dat d'=>cases h1
   | bor j =>
    simp only [bJ,Jb] at hi;rcases hi with rfl | hi
    ·rcases l7 h1 with e | e
     ·exact ⟨d,.inl e⟩
     ·exact ⟨d,.inr e⟩
    ·exact ih hi
theorem kj:∀ (env:En) (is:List Nat) (ds:List PyData),SmK env (b6 env is ds)
 | env,[],ds=>by unfold b6;exact SmK.refl _
 | env,i :: is,[]=>by unfold b6;exact SmK.refl _
 | env,i :: is,d :: ds=>by unfold b6;exact (cK env i d).trans (kj _ is ds)
theorem fX:∀ (env:En) (is:List Nat) (ds:List PyData) (j:Nat),j ∉ is->(b6 env is ds)[j]?=env[j]?
 | env,[],ds,j,_=>by unfold b6;rfl
 | env,i :: is,[],j,_=>by unfold b6;rfl
 | env,i :: is,d :: ds,j,h=>by
  unfold b6;have n:j≠i:=fun z=>h (by rw [z];exact IP);rw [fX _ is ds j (fun z=>h (IZ _ z)),i6 n]
theorem jf {G:Addr->Prop}:∀ {env:En} {is:List Nat} {ds:List PyData} {j:Nat} {c:PyData},is.Nodup->(∀ i∈is,mu env i)->gi K G H ds (is.map (adr σ))->j∈is->az (b6 env is ds) j=some c->Top K G H c (adr σ j)
 | env,[],ds,j,c,_,_,_,h,_=>by simp at h
 | env,i :: is,[],j,c,_,_,h,_,_=>by simp [gi] at h
 | env,i :: is,d :: ds,j,c,nd,hm,h,hj,hc=>by
  obtain ⟨n1,nd'⟩:=J4.mp nd;have h':Top K G H d (adr σ i)/\gi K G H ds (is.map (adr σ)):=h;unfold b6 at hc;rcases Jb.mp hj with rfl | hj
  ·have e:=fX (dQ env j d) is ds j n1;have:az (dQ env j d) j=some c:=by unfold az at hc ⊢;rwa [e] at hc
   rw [ji (hm j IP)] at this;cases this;exact h'.1
  ·exact jf (env:=dQ env i d) nd' (fun k hk=>(cK env i d).symm.kp.mu (hm k (IZ _ hk))) h'.2 hj hc
theorem fx:∀ {is:List Nat},x4 is=true->is.Nodup
 | [],_=>List.nodup_nil
 | x :: xs,h=>by
  have h':xs.contains x=false/\x4 xs=true:=by simpa [x4] using h
  exact J4.mpr ⟨fun z=>by simp [z] at h',fx h'.2⟩
theorem xG {is bs:List Nat} {n:Nat} (h:ckA is bs n=true):is.Nodup/\(∀ i∈bs,i ∉ is)/\n=is.length:=by
 unfold ckA at h;simp only [Jx,Lj,JD] at h;exact ⟨fx h.1,fun i hi z=>by have:=h.2.1 i hi;simp [z] at this,h.2.2⟩
theorem s_call {f:Fn} {as:XA} (ih:SA K ga gd as):SE K ga gd (.call f as):=by
 intro env rv env' h F0 H₀ I σ H Q R q;simp only [dE] at h;split at h
 ·rename_i avs e1 h1;unfold uL at h;split at h
  ·cases h
  ·rename_i ds h2;split at h
   ·cases h
   ·rename_i pr outs h3;split at h
    ·rename_i hc;obtain ⟨nd,hb,hl⟩:=xG hc;cases h;refine ih _ _ _ h1 F0 H₀ I σ H _ R fun vs H1 R1 k1 a1=>?_;show bH f K (vs++[]) H1 Q NoE;rw [Jp];have hmu:=rM h2;refine ⟨FF F0 e1 σ,ds,(bJ f.ms avs).map (adr σ),pr,outs,h3,Ah R1 (bJ f.ms avs) hmu h2 a1 nd hb (fun _ z=>z),fun b z=>R1.cN z,fun v H2 hk hr=>?_⟩;have k:=kj e1 (bJ f.ms avs) outs;have eF:=k.ff (F0:=F0) (σ:=σ);have eI:=k.ia (σ:=σ);have isIA:∀ b,b∈(bJ f.ms avs).map (adr σ)->IA e1 σ b:=fun b hb=>by
      obtain ⟨i,hi,e⟩:=Jz.mp hb;obtain ⟨d,m'⟩:=hmu i hi;have:∃ a,σ[i]?=some (some (.ref a)):=by
       rcases m' with z | z
       ·obtain ⟨a,s,_⟩:=R1.own i d z;exact ⟨a,s⟩
       ·obtain ⟨a,s,_⟩:=R1.ino i d z;exact ⟨a,s⟩
      obtain ⟨a,s⟩:=this;rw [eK s] at e;subst e;exact ⟨i,hmu i hi,s⟩
     have hk':∀ b o,H1 b=some o->¬IA e1 σ b->H2 b=some o:=fun b o e n=>hk b o e fun z=>n (isIA b z);have jQ:∀ j d a,j ∉ bJ f.ms avs->az (b6 e1 (bJ f.ms avs) outs) j=some d->σ[j]?=some (some (.ref a))->az e1 j=some d/\a ∉ (bJ f.ms avs).map (adr σ):=fun j d a hj hm hs=>by
      have hm':az e1 j=some d:=by unfold az at hm ⊢;rwa [fX _ _ _ _ hj] at hm
      refine ⟨hm',fun z=>?_⟩;obtain ⟨i,hi,e⟩:=Jz.mp z;obtain ⟨i',m2,s2⟩:=isIA a z;obtain ⟨di,mi⟩:=hmu i hi;have:∃ a,σ[i]?=some (some (.ref a)):=by
       rcases mi with z | z
       ·obtain ⟨a,s,_⟩:=R1.own i di z;exact ⟨a,s⟩
       ·obtain ⟨a,s,_⟩:=R1.ino i di z;exact ⟨a,s⟩
      obtain ⟨c,sc⟩:=this;rw [eK sc] at e;subst e;have:=R1.sep j i c (R1.bW hm').1 ⟨di,mi⟩ hs sc;subst this;exact hj hi
     cases pr with
     | dat d =>
      obtain ⟨hd,ht⟩:=hr;refine q v H2 (R1.chg k hk' fun j c a hm hs=>?_) (k1.trans k.kp) (show Dm K _ H2 d v by rw [eF];exact hd);by_cases hj:j∈bJ f.ms avs
      ·have:=jf nd hmu ht hj hm
       rwa [eK hs] at this
      ·obtain ⟨hm',ha⟩:=jQ j c a hj hm hs;obtain ⟨_,a',s',_,t'⟩:=R1.bW hm';rw [hs] at s';cases s';exact t'.pr (R1.mR hk') (fun _ z=>z) fun o e=>hk a o e ha
     | frs d =>
      obtain ⟨c,ev,hn,td,ht⟩:=hr;obtain ⟨o,ho,_⟩:=td.wr;have sm:aw H1 (upd H1 c o):=aw.nw o hn;have R1c:=R1.fresh (c:=c) hn sm (by rw [ag];exact nofun);have cIA:¬IA e1 σ c:=fun z=>by obtain ⟨o',z,_⟩:=R1.iaT z;rw [hn] at z;cases z
      have hkc:∀ b o',upd H1 c o b=some o'->¬IA e1 σ b->H2 b=some o':=fun b o' e n=>by
       by_cases z:b=c
       ·subst z;rw [ag] at e;cases e;exact ho
       ·rw [ae z] at e;exact hk' b o' e n
      have pF:Pr (fun b=>FF F0 e1 σ b\/b=c) H1 H2:=fun b o' e n=>hk' b o' e fun y=>by
       rcases n with n | n
       ·exact n (.inl (R1.ia y))
       ·obtain ⟨o2,h2,w2⟩:=R1.iaT y;rw [e] at h2;cases h2;rw [n] at w2;cases w2
      have R2c:Rel K (fun b=>F0 b\/b=c) H₀ I (b6 e1 (bJ f.ms avs) outs) σ H2:=by
       refine R1c.chg k hkc fun j c' a hm hs=>?_;rw [dO];by_cases hj:j∈bJ f.ms avs
       ·have:=jf nd hmu ht hj hm
        rwa [eK hs] at this
       ·obtain ⟨hm',ha⟩:=jQ j c' a hj hm hs;obtain ⟨_,a',s',_,t'⟩:=R1.bW hm';rw [hs] at s';cases s';exact (t'.fresh hn).pr pF (fun _ z=>z) fun o e=>hk a o e ha
      have nino:∀ (i:Nat) (d':PyData),(b6 e1 (bJ f.ms avs) outs)[i]?=some (.ino d')->σ[i]?≠some (some (.ref c)):=fun i d' e' z=>cIA ⟨i,k.kp.mu ⟨d',.inr e'⟩,z⟩;have rv:cP K F0 H₀ I (b6 e1 (bJ f.ms avs) outs) σ H2 (.frs d) v:=by
       refine ⟨c,ev,R2c,by rw [eF];exact td,R1.oi (.inl hn),fun z=>?_,nino,fun i d' e'=>?_⟩
       ·rw [eF] at z;exact R1.cN z hn
       ·have e0:e1[i]?=some (.ro d'):=by
         rcases k.2 i with y | ⟨_,_,_,y⟩ | ⟨_,_,_,y⟩
         ·rw [<- y];exact e'
         ·rw [e'] at y;cases y
         ·rw [e'] at y;cases y
        obtain ⟨b,s,t⟩:=R1.ro i d' e0;rw [eF,eI];exact ⟨b,s,((t.fresh hn).wQ hn).pr pF (fun _ z=>z) (fun _ z=>z) fun b o' e n=>hk' b o' e fun z=>n (.inl z)⟩
      exact q v H2 rv.rel (k1.trans k.kp) rv
    ·cases h
 ·cases h
theorem DF {as:XA} (ih:SA K ga gd as):SE K ga gd (.tup as):=by
 intro env rv env' h F0 H₀ I σ H Q R q;simp only [dE] at h;split at h
 ·rename_i avs e1 h1;split at h
  ·rename_i ds h2;split at h
   ·rename_i hl;cases h;refine ih _ _ _ h1 F0 H₀ I σ H _ R fun vs H1 R1 k1 a1=>?_;have dl:=a1.Dt h2;have hl':vs.length<=sizeLine:=by rw [dl.len];exact hl
    refine ⟨hl',fun p hp=>?_⟩;have s:=aw.nw (.tup vs) hp;exact q _ _ (R1.same s) k1 ⟨p,vs,rfl,.inl (.inl ag),hl',dl.pr (Pr.of_same s) fun _ z=>z⟩
   ·cases h
  ·cases h
 ·cases h
theorem F5 {as:XA} (ih:SA K ga gd as):SE K ga gd (.lst as):=by
 intro env rv env' h F0 H₀ I σ H Q R q;simp only [dE] at h;split at h
 ·rename_i avs e1 h1;split at h
  ·rename_i ds h2;split at h
   ·rename_i hl;cases h;refine ih _ _ _ h1 F0 H₀ I σ H _ R fun vs H1 R1 k1 a1=>?_;have dl:=a1.Dt h2;have hl':vs.length<=sizeLine:=by rw [dl.len];exact hl
    refine ⟨hl',fun p hp=>?_⟩;have s:=aw.nw (.lst vs) hp;exact q _ _ (R1.same s) k1 (R1.ko (pr:=.frs (.list ds)) s ⟨p,rfl,hp,vs,ag,hl',(dl.fresh hp).pr (Pr.of_same s) fun _ z=>z⟩)
   ·cases h
  ·cases h
 ·cases h
theorem DP {as:XA} (ih:SF K ga gd as):SE K ga gd (.fst as):=by
 intro env rv env' h F0 H₀ I σ H Q R q;simp only [dE] at h;split at h
 ·rename_i x e1 h1;cases h;exact ih _ _ _ _ h1 F0 H₀ I σ H _ R (show PyData.strOk ⟨#[]⟩=true by simp [PyData.strOk]) fun H1 R1 k1 hl ho=>q _ H1 R1 k1 ⟨rfl,hl,ho⟩
 ·cases h
theorem Fo:SF K ga gd .nil:=by
 intro out env x env' h F0 H₀ I σ H Q R ok q;simp only [dF] at h;split at h
 ·rename_i hl;cases h;exact ⟨hl,q H R (KpE.refl _) hl ok⟩
 ·cases h
theorem Aj {e:XE} {r:XA} (ie:SE K ga gd e) (ir:SF K ga gd r):SF K ga gd (.cons e r):=by
 intro out env x env' h F0 H₀ I σ H Q R ok q;simp only [dF] at h;split at h
 ·rename_i y e1 h1;split at h
  ·rename_i hl;refine ie _ _ _ h1 F0 H₀ I σ H _ R fun v H1 R1 k1 a1=>?_;obtain ⟨rfl,_,oky⟩:=(show v=.str y/\y.length<=sizeLine/\PyData.strOk y=true from a1);refine ⟨y,rfl,hl,?_⟩;exact ir _ _ _ _ h F0 H₀ I σ H1 _ R1 (j4 ok oky) fun H2 R2 k2 hx=>q H2 R2 (k1.trans k2) hx
  ·cases h
 ·cases h
theorem DH:SA K ga gd .nil:=by
 intro env rv env' h F0 H₀ I σ H Q R q;simp only [dA] at h;cases h;exact q [] H R (KpE.refl _) rfl
theorem AM {e:XE} {r:XA} (ie:SE K ga gd e) (ir:SA K ga gd r):SA K ga gd (.cons e r):=by
 intro env rv env' h F0 H₀ I σ H Q R q;simp only [dA] at h;split at h
 ·rename_i rv0 e1 h1;split at h
  ·rename_i avs e2 h2;cases h;refine ie _ _ _ h1 F0 H₀ I σ H _ R fun v H1 R1 k1 a1=>?_;refine ir _ _ _ h2 F0 _ _ σ H1 _ R1.rebase fun vs H2 S2 k2 a2=>?_;exact q (v :: vs) H2 (R1.aK S2) (k1.trans k2) ⟨v,vs,rfl,a1.av.keep R1 S2 k2,a2⟩
  ·cases h
 ·cases h
end
end L2
end
section
namespace L2
open PySem
section
variable {K:Fg} {F F' I I' F0:Addr->Prop} {H H' H₀:Hp} {env env':En} {σ σ':St} {ga:Nat->V} {gd:List PyData}
theorem EO {c:XT} {a b:XE} (ic:ST K ga gd c) (ia:SE K ga gd a) (ib:SE K ga gd b):SE K ga gd (.ifx c a b):=by
 intro env rv env' h F0 H₀ I σ H Q R q;simp only [dE] at h;split at h
 ·rename_i e1 h1;refine ic _ _ _ h1 F0 H₀ I σ H _ R fun H1 R1 k1=>?_;rw [IV rfl];exact ia _ _ _ h F0 H₀ I σ H1 _ R1 fun v H2 R2 k2 r=>q v H2 R2 (k1.trans k2) r
 ·rename_i e1 h1;refine ic _ _ _ h1 F0 H₀ I σ H _ R fun H1 R1 k1=>?_;rw [IU (by decide)];exact ib _ _ _ h F0 H₀ I σ H1 _ R1 fun v H2 R2 k2 r=>q v H2 R2 (k1.trans k2) r
 ·cases h
theorem Bm {a b:XE} (ia:SE K ga gd a) (ib:SE K ga gd b):SE K ga gd (.sf a b):=by
 intro env rv env' h F0 H₀ I σ H Q R q;simp only [dE] at h;split at h
 ·rename_i e1 h1;refine ia _ _ _ h1 F0 H₀ I σ H _ R fun v H1 R1 k1 r1=>⟨true,r1,?_⟩;rw [IV rfl];exact ib _ _ _ h F0 H₀ I σ H1 _ R1 fun v H2 R2 k2 r=>q v H2 R2 (k1.trans k2) r
 ·rename_i e1 h1;cases h;refine ia _ _ _ h1 F0 H₀ I σ H _ R fun v H1 R1 k1 r1=>⟨false,r1,?_⟩;rw [IU (by decide)];exact q _ H1 R1 k1 rfl
 ·cases h
theorem F7 {a b:XE} (ia:SE K ga gd a) (ib:SE K ga gd b):SE K ga gd (.orv a b):=by
 intro env rv env' h F0 H₀ I σ H Q R q;simp only [dE] at h;split at h
 ·rename_i e1 h1;cases h;refine ia _ _ _ h1 F0 H₀ I σ H _ R fun v H1 R1 k1 r1=>⟨true,r1,?_⟩;rw [IV rfl];exact q _ H1 R1 k1 rfl
 ·rename_i e1 h1;refine ia _ _ _ h1 F0 H₀ I σ H _ R fun v H1 R1 k1 r1=>⟨false,r1,?_⟩;rw [IU (by decide)];exact ib _ _ _ h F0 H₀ I σ H1 _ R1 fun v H2 R2 k2 r=>q v H2 R2 (k1.trans k2) r
 ·cases h
theorem Bf {a:XE} (ia:SE K ga gd a):SE K ga gd (.zc a):=by
 intro env rv env' h F0 H₀ I σ H Q R q;simp only [dE] at h;split at h
 ·rename_i x e1 h1;cases h;exact ia _ _ _ h1 F0 H₀ I σ H _ R fun v H1 R1 k1 r1=>⟨x,r1,q _ H1 R1 k1 rfl⟩
 ·cases h
theorem Eo {x y:PyData} {u v:V} (hx:Vw K F H x u) (hy:Vw K F H y v):VwL K F H [x,y] [u,v]:=⟨u,[v],rfl,hx,v,[],rfl,hy,rfl⟩
theorem FQ {p p':Prm} {a b c:XE} (ia:SE K ga gd a) (ib:SE K ga gd b) (ic:SE K ga gd c):SE K ga gd (.chn p p' a b c):=by
 intro env rv env' h F0 H₀ I σ H Q R q;simp only [dE] at h;split at h
 ·rename_i ra e1 h1;split at h
  ·rename_i rb e2 h2;split at h
   ·rename_i x y hx hy;refine ia _ _ _ h1 F0 H₀ I σ H _ R fun v H1 R1 k1 r1=>?_;refine ib _ _ _ h2 F0 _ _ σ H1 _ R1.rebase fun u H2 S2 k2 r2=>?_;have R2:=R1.aK S2;have a1:=r1.av.keep R1 S2 k2;have a2:=r2.av;rw [hx] at a1;rw [hy] at a2;have dx:Dm K (FF F0 e2 σ) H2 x v:=a1;have dy:Dm K (FF F0 e2 σ) H2 y u:=a2;split at h
    ·rename_i hp;split at h
     ·rename_i rc e3 h3;split at h
      ·rename_i z hz;split at h
       ·rename_i pr hq;cases h;refine p.ok K _ H2 _ _ _ _ hp (Eo dx.vw dy.vw) (fun b z=>R2.cN z) fun w H3 s3 hw=>⟨true,hw,?_⟩;rw [IV rfl];have R3:=R2.same s3;have dy3:Dm K (FF F0 e2 σ) H3 y u:=dy.pr (Pr.of_same s3) fun _ z=>z;refine ic _ _ _ h3 F0 _ _ σ H3 _ R3.rebase fun t H4 S4 k4 r4=>?_;have R4:=R3.aK S4;have a4:=r4.av;rw [hz] at a4;have dz:Dm K (FF F0 env' σ) H4 z t:=a4;refine p'.ok K _ H4 _ _ _ _ hq (Eo (R3.mF S4 k4 dy3).vw dz.vw) (fun b z=>R4.cN z) fun w H5 s5 hw=>?_;exact q w H5 (R4.same s5) ((k1.trans k2).trans k4) (R4.ko s5 hw)
       ·cases h
      ·cases h
     ·cases h
    ·rename_i hp;cases h;refine p.ok K _ H2 _ _ _ _ hp (Eo dx.vw dy.vw) (fun b z=>R2.cN z) fun w H3 s3 hw=>⟨false,hw,?_⟩;rw [IU (by decide)];exact q _ H3 (R2.same s3) (k1.trans k2) rfl
    ·cases h
   ·cases h
  ·cases h
 ·cases h
theorem Fq {p:Int->Int->Prm} {a b c:XE} (ia:SE K ga gd a) (ib:SE K ga gd b) (ic:SE K ga gd c):SE K ga gd (.sl2 p a b c):=by
 intro env rv env' h F0 H₀ I σ H Q R q;simp only [dE] at h;split at h
 ·rename_i ra e1 h1;split at h
  ·rename_i i e2 h2;split at h
   ·rename_i j e3 h3;split at h
    ·rename_i d hv;split at h
     ·rename_i pr hp;cases h;refine ia _ _ _ h1 F0 H₀ I σ H _ R fun v H1 R1 k1 r1=>?_;refine ib _ _ _ h2 F0 _ _ σ H1 _ R1.rebase fun u H2 S2 k2 r2=>⟨i,r2,?_⟩;have R2:=R1.aK S2;have a1:=r1.av.keep R1 S2 k2;refine ic _ _ _ h3 F0 _ _ σ H2 _ R2.rebase fun w H3 S3 k3 r3=>⟨j,r3,?_⟩;have R3:=R2.aK S3;have a2:=a1.keep R2 S3 k3;refine (p i j).ok K _ H3 [d] [v] pr Q hp ⟨v,[],rfl,a2.vw R3 hv,rfl⟩ (fun b z=>R3.cN z) fun w H4 s4 hw=>?_;exact q w H4 (R3.same s4) ((k1.trans k2).trans k3) (R3.ko s4 hw)
     ·cases h
    ·cases h
   ·cases h
  ·cases h
 ·cases h
theorem E6 {e:XE} (ie:SE K ga gd e):ST K ga gd (.tst e):=by
 intro env b env' h F0 H₀ I σ H Q R q;simp only [dT] at h;split at h
 ·rename_i x e1 h1;cases h;exact ie _ _ _ h1 F0 H₀ I σ H _ R fun v H1 R1 k1 r1=>⟨_,r1,q H1 R1 k1⟩
 ·cases h
theorem iL {ds:List PyData} {vs:List V} (h:DmL K F H ds vs):vs.isEmpty=ds.isEmpty:=by
 cases ds with
 | nil=>rw [show vs=[] from h];rfl
 | cons d ds=>obtain ⟨v,r,rfl,_⟩:=h;rfl
theorem Vw.tru {d:PyData} {v:V} (h:Vw K F H d v) (nd:D0 d≠true):C9 K v H (FD d):=by
 cases d with
 | none=>rw [show v=.non from h];rfl
 | bool b=>rw [show v=.bl b from h];rfl
 | int i=>rw [show v=.int i from h];rfl
 | str x=>obtain ⟨rfl,hl,_⟩:=(show v=.str x/\x.length<=sizeLine/\PyData.strOk x=true from h);exact ⟨hl,rfl⟩
 | list ds=>obtain ⟨a,rfl,xs,e,_,r⟩:=h;exact .inl ⟨xs,e,by rw [iL r];rfl⟩
 | tuple ds=>obtain ⟨a,xs,rfl,e,_,r⟩:=h;exact .inr (.inl ⟨xs,e,by rw [iL r];rfl⟩)
 | dict ds=>exact absurd rfl nd
theorem Fz {e:XE} (ie:SE K ga gd e):ST K ga gd (.tru e):=by
 intro env b env' h F0 H₀ I σ H Q R q;simp only [dT] at h;split at h
 ·rename_i x e1 h1;split at h
  ·rename_i d h2;split at h
   ·cases h
   ·rename_i nd;cases h;exact ie _ _ _ h1 F0 H₀ I σ H _ R fun v H1 R1 k1 r1=>⟨_,(r1.av.vw R1 h2).tru nd,q H1 R1 k1⟩
  ·cases h
 ·cases h
theorem Es {a b:XT} (ia:ST K ga gd a) (ib:ST K ga gd b):ST K ga gd (.and a b):=by
 intro env x env' h F0 H₀ I σ H Q R q;simp only [dT] at h;split at h
 ·rename_i e1 h1;refine ia _ _ _ h1 F0 H₀ I σ H _ R fun H1 R1 k1=>?_;rw [IV rfl];exact ib _ _ _ h F0 H₀ I σ H1 _ R1 fun H2 R2 k2=>q H2 R2 (k1.trans k2)
 ·rename_i e1 h1;cases h;refine ia _ _ _ h1 F0 H₀ I σ H _ R fun H1 R1 k1=>?_;rw [IU (by decide)];exact q H1 R1 k1
 ·cases h
theorem HB {a b:XT} (ia:ST K ga gd a) (ib:ST K ga gd b):ST K ga gd (.or a b):=by
 intro env x env' h F0 H₀ I σ H Q R q;simp only [dT] at h;split at h
 ·rename_i e1 h1;cases h;refine ia _ _ _ h1 F0 H₀ I σ H _ R fun H1 R1 k1=>?_;rw [IV rfl];exact q H1 R1 k1
 ·rename_i e1 h1;refine ia _ _ _ h1 F0 H₀ I σ H _ R fun H1 R1 k1=>?_;rw [IU (by decide)];exact ib _ _ _ h F0 H₀ I σ H1 _ R1 fun H2 R2 k2=>q H2 R2 (k1.trans k2)
 ·cases h
theorem D1 {a:XT} (ia:ST K ga gd a):ST K ga gd (.not a):=by
 intro env x env' h F0 H₀ I σ H Q R q;simp only [dT] at h;split at h
 ·rename_i b e1 h1;cases h;exact ia _ _ _ h1 F0 H₀ I σ H _ R fun H1 R1 k1=>q H1 R1 k1
 ·cases h
theorem F3:ST K ga gd .yes:=by
 intro env x env' h F0 H₀ I σ H Q R q;simp only [dT] at h;cases h;exact q H R (KpE.refl _)
theorem wz {a:Addr} {vs:List V} {ds:List PyData} (hd:DmL K F H ds vs) (hl:vs.length<=sizeLine) (h:∀ H',(∀ b o,H b=some o->¬I b->H' b=some o)->SqL K H' a vs):uh K F I H (Itl K a) ds :=
 gC hd hl fun H' k j=>⟨fun hj=>⟨⟨vs,vs[j],h H' k,IG hj⟩,fun x H'' y=>⟨y.1,y.2 vs (h H' k)⟩⟩,fun hj=>⟨vs,h H' k,hj⟩⟩
theorem AF {a:Addr} {vs:List V} {ds:List PyData} (hd:DmL K F H ds vs) (hl:vs.length<=sizeLine) (h:∀ H',(∀ b o,H b=some o->¬I b->H' b=some o)->SqT K H' a vs):uh K F I H (Itt K a) ds :=
 gC hd hl fun H' k j=>⟨fun hj=>⟨⟨vs,vs[j],h H' k,IG hj⟩,fun x H'' y=>⟨y.1,y.2 vs (h H' k)⟩⟩,fun hj=>⟨vs,h H' k,hj⟩⟩
theorem yB {e:XE} (ie:SE K ga gd e):SI K ga gd (.lst e):=by
 intro env ds lock env' h F0 H₀ I σ H Q R q;simp only [dI] at h;split at h
 ·rename_i rv e1 h1;split at h
  ·rename_i ds' hv;cases h;refine ie _ _ _ h1 F0 H₀ I σ H _ R fun v H1 R1 k1 r1=>?_;have a1:=r1.av;rw [hv] at a1;obtain ⟨a,xs,rfl,l,z,r⟩:=(show Dm K (FF F0 env' σ) H1 (.list ds) v from a1);refine ⟨a,rfl,⟨xs,l.elim (fun q=>.inl q.2) .inr⟩,q _ H1 R1 k1 (fun i z=>by cases z) (wz r z fun H' k=>?_)⟩;rcases l with ⟨n,l | ⟨o,l⟩⟩ | l
   ·exact .inl (.inl (k _ _ l fun z=>n (R1.ia z.1)))
   ·exact .inl (.inr ⟨o,k _ _ l fun z=>n (R1.ia z.1)⟩)
   ·exact .inr l
  ·cases h
  ·rename_i i hv;split at h
   ·rename_i ds' hc;cases h;refine ie _ _ _ h1 F0 H₀ I σ H _ R fun v H1 R1 k1 r1=>?_;have a1:=r1.av;rw [hv] at a1;have s:σ[i]?=some (some v):=a1;unfold cont at hc;have fin:∀ a xs,v=.ref a->DmL K (FF F0 env' σ) H1 ds xs->xs.length<=sizeLine->(∀ H',(∀ b o,H1 b=some o->¬(IA env' σ b/\∀ j,some i=some j->mu env' j->σ[j]?≠some (some (.ref b)))->H' b=some o)->SqL K H' a xs)->(∃ d,cont env' i=some d) ->
      ∃ a,v=.ref a/\(∃ xs,SqL K H1 a xs)/\Q (Itl K a) H1:=fun a xs ev r z k hcd =>
     ⟨a,ev,⟨xs,k H1 fun _ _ e _=>e⟩,q _ H1 R1 k1 (fun j hj=>by cases hj;exact hcd) (wz r z k)⟩
    split at hc
    ·rename_i d e;cases hc;obtain ⟨a,s',_,_,xs,t,z,r⟩:=R1.own i _ e;rw [s] at s';cases s';exact fin a xs rfl r z (fun H' k=>.inl (.inl (k _ _ t fun y=>y.2 i rfl ⟨_,.inl e⟩ s))) ⟨_,by unfold cont;rw [e]⟩
    ·rename_i d e;cases hc;obtain ⟨a,s',_,_,xs,t,z,r⟩:=R1.ino i _ e;rw [s] at s';cases s';exact fin a xs rfl r z (fun H' k=>.inl (.inl (k _ _ t fun y=>y.2 i rfl ⟨_,.inr e⟩ s))) ⟨_,by unfold cont;rw [e]⟩
    ·rename_i d e;cases hc;obtain ⟨a,s',xs,l,z,r⟩:=R1.ro i _ e;rw [s] at s';cases s';refine fin a xs rfl r z (fun H' k=>?_) ⟨_,by unfold cont;rw [e]⟩;rcases l with ⟨n,l | ⟨o,l⟩⟩ | l
     ·exact .inl (.inl (k _ _ l fun z=>n z.1))
     ·exact .inl (.inr ⟨o,k _ _ l fun z=>n z.1⟩)
     ·exact .inr l
    ·cases hc
   ·cases h
 ·cases h
theorem rB:∀ {kvs:List (PyData×PyData)} {xs:List (PyData×V×V)},DmP K F H kvs xs->DmL K F H (kvs.map (·.1)) (xs.map (·.2.1))
 | [],xs,h=>by rw [show xs=[] from h];rfl
 | (k,d) :: kvs,xs,h=>by
  obtain ⟨j,v,r,rfl,_,h0,_,h2⟩:=h;exact ⟨j,_,rfl,h0,rB h2⟩
theorem vp {a:Addr} {ep:Nat} {xs:List (PyData×V×V)} {kvs:List (PyData×PyData)} (hd:DmP K F H kvs xs) (hl:xs.length<=sizeLine) (h:∀ H':Hp,(∀ b o,H b=some o->¬I b->H' b=some o)->H' a=some (.dD ep xs)):uh K F I H (Itd a ep xs) (kvs.map (·.1)) :=
 gC (vs:=xs.map (·.2.1)) (rB hd) (by rw [II];exact hl) fun H' k j=>⟨fun hj=>⟨⟨h H' k,by rw [II] at hj;exact hj⟩,fun x H'' y=>⟨y.1,by rw [IX];exact y.2⟩⟩,fun hj=>⟨h H' k,by rw [II] at hj;exact hj⟩⟩
theorem FJ {e:XE} (ie:SE K ga gd e):SI K ga gd (.dct e):=by
 intro env ds lock env' h F0 H₀ I σ H Q R q;simp only [dI] at h;split at h
 ·rename_i rv e1 h1;split at h
  ·rename_i kvs hv;cases h;refine ie _ _ _ h1 F0 H₀ I σ H _ R fun v H1 R1 k1 r1=>?_;have a1:=r1.av;rw [hv] at a1;obtain ⟨a,ep,xs,rfl,n,l,z,r⟩:=(show Dm K (FF F0 env' σ) H1 (.dict kvs) v from a1);exact ⟨a,ep,xs,rfl,l,q _ H1 R1 k1 (fun i z=>by cases z) (vp r z fun H' k=>k _ _ l fun z=>n (R1.ia z.1))⟩
  ·cases h
  ·rename_i i hv;split at h
   ·rename_i kvs hc;cases h;refine ie _ _ _ h1 F0 H₀ I σ H _ R fun v H1 R1 k1 r1=>?_;have a1:=r1.av;rw [hv] at a1;have s:σ[i]?=some (some v):=a1;unfold cont at hc;have fin:∀ a ep xs,v=.ref a->DmP K (FF F0 env' σ) H1 kvs xs->xs.length<=sizeLine->(∀ H':Hp,(∀ b o,H1 b=some o->¬(IA env' σ b/\∀ j,some i=some j->mu env' j->σ[j]?≠some (some (.ref b)))->H' b=some o)->H' a=some (.dD ep xs))->(∃ d,cont env' i=some d) ->
      ∃ a ep xs,v=.ref a/\H1 a=some (.dD ep xs)/\Q (Itd a ep xs) H1:=fun a ep xs ev r z k hcd =>
     ⟨a,ep,xs,ev,k H1 fun _ _ e _=>e,q _ H1 R1 k1 (fun j hj=>by cases hj;exact hcd) (vp r z k)⟩
    split at hc
    ·rename_i d e;cases hc;obtain ⟨a,s',_,_,ep,xs,t,z,r⟩:=R1.own i _ e;rw [s] at s';cases s';exact fin a ep xs rfl r z (fun H' k=>k _ _ t fun y=>y.2 i rfl ⟨_,.inl e⟩ s) ⟨_,by unfold cont;rw [e]⟩
    ·rename_i d e;cases hc;obtain ⟨a,s',_,_,ep,xs,t,z,r⟩:=R1.ino i _ e;rw [s] at s';cases s';exact fin a ep xs rfl r z (fun H' k=>k _ _ t fun y=>y.2 i rfl ⟨_,.inr e⟩ s) ⟨_,by unfold cont;rw [e]⟩
    ·rename_i d e;cases hc;obtain ⟨a,s',ep,xs,n,l,z,r⟩:=R1.ro i _ e;rw [s] at s';cases s';exact fin a ep xs rfl r z (fun H' k=>k _ _ l fun z=>n z.1) ⟨_,by unfold cont;rw [e]⟩
    ·cases hc
   ·cases h
 ·cases h
theorem BS {e:XE} (ie:SE K ga gd e):SI K ga gd (.tup e):=by
 intro env ds lock env' h F0 H₀ I σ H Q R q;simp only [dI] at h;split at h
 ·rename_i rv e1 h1;split at h
  ·rename_i ds' hv;cases h;refine ie _ _ _ h1 F0 H₀ I σ H _ R fun v H1 R1 k1 r1=>?_;have a1:=r1.av;rw [hv] at a1;obtain ⟨a,xs,rfl,l,z,r⟩:=(show Dm K (FF F0 env' σ) H1 (.tuple ds) v from a1);refine ⟨a,rfl,⟨xs,l⟩,q _ H1 R1 k1 (fun i z=>by cases z) (AF r z fun H' k=>?_)⟩;exact l.pr (R1.mR fun b o e n=>k b o e fun z=>n z.1)
  ·cases h
 ·cases h
theorem HA {e:XE} (ie:SE K ga gd e):SI K ga gd (.sq e):=by
 intro env ds lock env' h F0 H₀ I σ H Q R q;simp only [dI] at h;split at h
 ·rename_i rv e1 h1;split at h
  ·rename_i ds' hv;exact .inl (yB ie env ds lock env' (by simp only [dI,h1,hv];exact h) F0 H₀ I σ H Q R q)
  ·rename_i ds' hv;exact .inr (BS ie env ds lock env' (by simp only [dI,h1,hv];exact h) F0 H₀ I σ H Q R q)
  ·cases h
  ·rename_i i hv;exact .inl (yB ie env ds lock env' (by simp only [dI,h1,hv];exact h) F0 H₀ I σ H Q R q)
 ·cases h
theorem Cb:∀ {cs:List Nat},(∀ c∈cs,c < 0x110000)->DmL K F H (cs.map fun c=>.str ⟨#[c]⟩) (cs.map fun c=>.str ⟨#[c]⟩)
 | [],_=>rfl
 | c :: cs,h=>⟨_,_,rfl,⟨rfl,by show 1<=sizeLine;decide,by have:=h c IP;simp [PyData.strOk,this]⟩,Cb fun x hx=>h x (IZ _ hx)⟩
theorem gF {x:Str} (h:PyData.strOk x=true):∀ c∈x.cps.toList,c < 0x110000:=fun c hc=>by
 unfold PyData.strOk at h;have:=Array.all_eq_true'.mp h c (by simpa using hc);simpa using this
theorem FC {e:XE} (ie:SE K ga gd e):SI K ga gd (.str e):=by
 intro env ds lock env' h F0 H₀ I σ H Q R q;simp only [dI] at h;split at h
 ·rename_i rv e1 h1;split at h
  ·rename_i x hv;cases h;refine ie _ _ _ h1 F0 H₀ I σ H _ R fun v H1 R1 k1 r1=>?_;have a1:=r1.av;rw [hv] at a1;obtain ⟨rfl,hl,ok⟩:=(show v=.str x/\x.length<=sizeLine/\PyData.strOk x=true from a1);have ez:x.cps.toList.length=x.length:=by simp [Str.length]
   refine ⟨x,rfl,q _ H1 R1 k1 (fun i z=>by cases z) (gC (Cb (gF ok)) (by rw [II,ez];exact hl) fun H' k j=>⟨fun hj=>?_,fun hj=>?_⟩)⟩
   ·rw [II,ez] at hj;refine ⟨hj,fun y H'' hy=>?_⟩;obtain ⟨e,c,hc,rfl⟩:=hy;refine ⟨e,?_⟩;rw [IX];have:x.cps.toList[j]?=some c:=by rw [<- hc];simp
    rw [this];rfl
   ·rw [II,ez] at hj;exact hj
  ·cases h
 ·cases h
theorem vT {f:Nat->Int}:∀ {cs:List Nat},DmL K F H (cs.map fun c=>.int (f c)) (cs.map fun c=>.int (f c))
 | []=>rfl
 | c :: cs=>⟨_,_,rfl,rfl,vT⟩
theorem v9 {lo:Int} {n:Nat} (hn:n<=sizeLine):uh K F I H (Itr lo n) ((List.range n).map fun (k:Nat)=>.int (lo+(k:Int))):=by
 refine gC (vs:=(List.range n).map fun (k:Nat)=>.int (lo+(k:Int))) (vT (f:=fun k=>lo+(k:Int))) (by rw [II,J9];exact hn) fun H' k j=>⟨fun hj=>?_,fun hj=>?_⟩
 ·rw [II,J9] at hj;refine ⟨hj,fun y H'' hy=>⟨hy.1,?_⟩⟩;rw [IX,List.getElem?_range hj,hy.2];rfl
 ·rw [II,J9] at hj;exact hj
theorem zQ {as:XA} (ia:SA K ga gd as):SI K ga gd (.rng1 as):=by
 intro env ds lock env' h F0 H₀ I σ H Q R q;simp only [dI] at h;split at h
 ·rename_i avs e1 h1;split at h
  ·rename_i j;split at h
   ·rename_i hj;cases h;refine ia _ _ _ h1 F0 H₀ I σ H _ R fun vs H1 R1 k1 a1=>?_;obtain ⟨v,r,rfl,hv,rfl⟩:=a1;have hv:v=.int j:=hv;subst hv;refine ⟨j,rfl,hj.1,by have:=hj.2;omega,q _ H1 R1 k1 (fun i z=>by cases z) (v9 ?_)⟩;have:=hj.2;show j.toNat<=2 ^ 24;omega
   ·cases h
  ·cases h
 ·cases h
theorem BW {a b:Addr} {xs ys:List V} {ds es:List PyData} (hd:DmL K F H ds xs) (he:DmL K F H es ys) (hl:xs.length<=sizeLine) (h1:∀ H',(∀ b o,H b=some o->¬I b->H' b=some o)->SqL K H' a xs) (h2:∀ H',(∀ b o,H b=some o->¬I b->H' b=some o)->SqL K H' b ys):uh K F I H (Itz K a b xs ys) ((ds.zip es).map fun p=>.tuple [p.1,p.2]):=by
 have e1:=hd.len;have e2:=he.len;have el:((ds.zip es).map fun p=>PyData.tuple [p.1,p.2]).length=min xs.length ys.length:=by rw [II,List.length_zip,e1,e2]
 refine ⟨by rw [el];omega,fun H' k j=>⟨fun hj=>?_,fun hj=>?_⟩⟩
 ·rw [el] at hj;refine ⟨⟨h1 H' k,h2 H' k,by omega,by omega⟩,?_⟩;rintro x H'' ⟨p,u,v,hp,rfl,hu,hv,rfl⟩;obtain ⟨d,d1,d2⟩:=hd.get' hu;obtain ⟨e,e3,e4⟩:=he.get' hv;refine ⟨.tuple [d,e],?_,.inr ⟨p,u,v,d,e,rfl,rfl,hp,rfl,d2,e4⟩⟩;rw [IX,show (ds.zip es)[j]?=some (d,e) from List.getElem?_zip_eq_some.mpr ⟨d1,e3⟩];rfl
 ·rw [el] at hj;exact ⟨h1 H' k,h2 H' k,by omega⟩
theorem Eb {as:XA} (ia:SA K ga gd as):SI K ga gd (.zip as):=by
 intro env ds lock env' h F0 H₀ I σ H Q R q;simp only [dI] at h;split at h
 ·rename_i avs e1 h1;split at h
  ·rename_i x y;split at h
   ·rename_i xs ys hx hy;cases h;refine ia _ _ _ h1 F0 H₀ I σ H _ R fun vs H1 R1 k1 a1=>?_;obtain ⟨v,r,rfl,hv,w,r2,rfl,hw,rfl⟩:=a1;have one:∀ {x:AV} {xs:List PyData} {v:V},roL env' x=some xs->vP K F0 env' σ H1 x v->∃ a us,v=.ref a/\us.length<=sizeLine/\DmL K (FF F0 env' σ) H1 xs us/\∀ H',(∀ b o,H1 b=some o->¬(IA env' σ b/\∀ i,none=some i->mu env' i->σ[i]?≠some (some (.ref b)))->H' b=some o)->SqL K H' a us:=by
     intro x xs v hx hv;unfold roL at hx;split at hx
     ·cases hx;obtain ⟨a,us,rfl,l,z,r⟩:=(show Dm K (FF F0 env' σ) H1 (.list xs) v from hv);refine ⟨a,us,rfl,z,r,fun H' k=>?_⟩;rcases l with ⟨n,l | ⟨o,l⟩⟩ | l
      ·exact .inl (.inl (k _ _ l fun z=>n (R1.ia z.1)))
      ·exact .inl (.inr ⟨o,k _ _ l fun z=>n (R1.ia z.1)⟩)
      ·exact .inr l
     ·rename_i i;split at hx
      ·rename_i e;cases hx;have s:σ[i]?=some (some v):=hv;obtain ⟨a,s',us,l,z,r⟩:=R1.ro i _ e;rw [s] at s';cases s';refine ⟨a,us,rfl,z,r,fun H' k=>?_⟩;rcases l with ⟨n,l | ⟨o,l⟩⟩ | l
       ·exact .inl (.inl (k _ _ l fun z=>n z.1))
       ·exact .inl (.inr ⟨o,k _ _ l fun z=>n z.1⟩)
       ·exact .inr l
      ·cases hx
     ·cases hx
    obtain ⟨a,us,rfl,za,ra,sa⟩:=one hx hv;obtain ⟨b,ws,rfl,zb,rb,sb⟩:=one hy hw;exact ⟨a,b,us,ws,rfl,sa H1 fun _ _ e _=>e,sb H1 fun _ _ e _=>e,q _ H1 R1 k1 (fun i z=>by cases z) (BW ra rb za sa sb)⟩
   ·cases h
  ·cases h
 ·cases h
theorem Cs {as:XA} (ia:SA K ga gd as):SI K ga gd (.rng2 as):=by
 intro env ds lock env' h F0 H₀ I σ H Q R q;simp only [dI] at h;split at h
 ·rename_i avs e1 h1;split at h
  ·rename_i i j;split at h
   ·rename_i hj;cases h;refine ia _ _ _ h1 F0 H₀ I σ H _ R fun vs H1 R1 k1 a1=>?_;obtain ⟨v,r,rfl,hv,w,r2,rfl,hw,rfl⟩:=a1;have hv:v=.int i:=hv;have hw:w=.int j:=hw;subst hv hw;refine ⟨i,j,rfl,⟨hj.1,hj.2.1,hj.2.2.1,hj.2.2.2.1⟩,q _ H1 R1 k1 (fun i z=>by cases z) (v9 ?_)⟩;have:=hj.2.2.2.2;show (j - i).toNat<=2 ^ 24;omega
   ·cases h
  ·cases h
 ·cases h
end
end L2
end
section
namespace L2
open PySem
section
variable {K:Fg} {F F' I I' F0:Addr->Prop} {H H' H₀:Hp} {env env':En} {σ σ':St} {ga:Nat->V} {gd:List PyData}
theorem cP.carry {d:PyData} {p:Addr} (h:cP K F0 H₀ I env σ H (.frs d) (.ref p)) (S:Rel K (fun b=>F0 b\/b=p) H (IA env σ) env' σ H') (k:KpE env env'):cP K F0 H₀ I env' σ H' (.frs d) (.ref p):=by
 obtain ⟨a,ea,R,t,w,nF,hi,hr⟩:=h;cases ea;have cIA:¬IA env σ p:=fun z=>by
  obtain ⟨i,⟨c,e | e⟩,s⟩:=z
  ·exact nF (.inr ⟨i,c,e,s⟩)
  ·exact hi i c e s
 have R':=R.aK S;have hk:∀ b o,H b=some o->¬IA env σ b->H' b=some o:=S.b8;have pF:Pr (fun b=>FF F0 env σ b\/b=p) H H':=by
  have:=R.mR hk
  rwa [dO] at this
 have hf:∀ b,(FF F0 env' σ b\/b=p)->(FF F0 env σ b\/b=p):=fun b z=>z.imp (fun z=>k.ff z) id;refine ⟨p,rfl,R',t.pr pF hf fun o e=>hk p o e cIA,w,fun z=>nF (k.ff z),fun i c e s=>cIA ⟨i,k.mu ⟨c,.inr e⟩,s⟩,fun i c e=>?_⟩;obtain ⟨s,e0,ev⟩:=k.back e;have es:s=.ro c:=by
  cases s with
  | un=>cases ev
  | dat _=>cases ev
  | own _=>rcases ev with ⟨_,v⟩ | ⟨_,v⟩ | v <;> cases v
  | ino _=>obtain ⟨_,v⟩:=ev;cases v
  | ro d'=>cases ev;rfl
 subst es;obtain ⟨b,q,t'⟩:=hr i c e0;exact ⟨b,q,t'.pr pF hf (fun b z=>z.imp (fun z=>k.ia z) id) fun b o e n=>hk b o e fun z=>n (.inl z)⟩
theorem cP.put {d d':PyData} {p:Addr} {o:HO} (h:cP K F0 H₀ I env σ H (.frs d) (.ref p)) (ht:Top K (fun b=>FF F0 env σ b\/b=p) (upd H p o) d' p):cP K F0 H₀ I env σ (upd H p o) (.frs d') (.ref p):=by
 obtain ⟨a,ea,R,t,w,nF,hi,hr⟩:=h;cases ea;have cIA:¬IA env σ p:=fun z=>by
  obtain ⟨i,⟨c,e | e⟩,s⟩:=z
  ·exact nF (.inr ⟨i,c,e,s⟩)
  ·exact hi i c e s
 have pF:Pr (fun b=>FF F0 env σ b\/b=p) H (upd H p o):=fun b u e n=>by
  by_cases z:b=p
  ·subst z;rcases n with n | n
   ·exact absurd (.inr rfl) n
   ·obtain ⟨o',h',w'⟩:=t.wr;rw [e] at h';cases h';rw [n] at w';cases w'
  ·rw [ae z];exact e
 have eF:FF (fun b=>F0 b\/b=p) env σ=fun b=>FF F0 env σ b\/b=p:=dO;have nea:∀ i b,mu env i->σ[i]?=some (some (.ref b))->b≠p:=fun i b m s z=>cIA (z▸⟨i,m,s⟩);have hro:∀ (i:Nat) (d':PyData),env[i]?=some (.ro d')->∃ b,σ[i]?=some (some (.ref b))/\df K (fun b=>FF F0 env σ b\/b=p) (fun b=>IA env σ b\/b=p) (upd H p o) d' b:=fun i c e=>by
  obtain ⟨b,q,t'⟩:=hr i c e;exact ⟨b,q,t'.pr pF (fun _ z=>z) (fun _ z=>z) fun b u e n=>by rw [ae (fun z=>n (.inr z))];exact e⟩
 refine ⟨p,rfl,⟨R.len,fun i c e=>?_,fun i c e=>?_,fun i c e=>?_,fun i c e=>?_,R.sep,fun b hb=>?_,fun b u e n=>?_⟩,ht,w,nF,hi,hro⟩
 ·obtain ⟨v,s,r⟩:=R.dat i c e;rw [eF] at r ⊢;exact ⟨v,s,r.pr pF fun _ z=>z⟩
 ·obtain ⟨b,s,n,w',t'⟩:=R.own i c e;rw [eF] at t' ⊢;exact ⟨b,s,n,w',t'.pr pF (fun _ z=>z) fun u e'=>by rw [ae (nea i b ⟨c,.inl e⟩ s)];exact e'⟩
 ·obtain ⟨b,s,n,w',t'⟩:=R.ino i c e;rw [eF] at t' ⊢;exact ⟨b,s,n,w',t'.pr pF (fun _ z=>z) fun u e'=>by rw [ae (nea i b ⟨c,.inr e⟩ s)];exact e'⟩
 ·obtain ⟨b,s,t'⟩:=hro i c e;rw [eF];exact ⟨b,s,t'.pr Pr.refl (fun _ z=>z) (fun _ z=>.inl z) fun _ _ z _=>z⟩
 ·by_cases z:b=p
  ·subst z;rw [ag];exact nofun
  ·rw [ae z];exact R.dom b hb
 ·have:=R.b8 b u e n;by_cases z:b=p
  ·subst z;rcases w with w | w
   ·rw [e] at w;cases w
   ·exact absurd w n
  ·rw [ae z];exact this
theorem vK (a b:Key):PyData.eqv (kD a) (kD b)=decide (a=b):=by
 cases a with
 | inl i=>cases b with
  | inl j=>by_cases z:i=j <;> simp [kD,PyData.eqv,z]
  | inr y=>simp [kD,PyData.eqv]
 | inr x=>cases b with
  | inl j=>simp [kD,PyData.eqv]
  | inr y=>by_cases z:x=y <;> simp [kD,PyData.eqv,z]
theorem vC {k:PyData}:∀ {ds:List (PyData×PyData)} {xs:List (PyData×V×V)},DmP K F H ds xs->(ds.any fun kv=>PyData.eqv kv.1 k)=xs.any fun x=>PyData.eqv x.1 k
 | [],xs,h=>by rw [show xs=[] from h];rfl
 | (k',d) :: ds,xs,h=>by
  obtain ⟨j,v,r,rfl,_,_,_,h2⟩:=h;rw [Lm,Lm,vC h2]
theorem pq {k d:PyData} {v:V} (hd:Dm K F H d v):∀ {ds:List (PyData×PyData)} {xs:List (PyData×V×V)},DmP K F H ds xs->DmP K F H (ds.map fun kv=>if PyData.eqv kv.1 k=true then (kv.1,d) else kv) (xs.map fun x=>if PyData.eqv x.1 k=true then (x.1,x.2.1,v) else x)
 | [],xs,h=>by rw [show xs=[] from h];rfl
 | (k',d') :: ds,xs,h=>by
  obtain ⟨j,w,r,rfl,e,h0,h1,h2⟩:=h;rw [List.map_cons,List.map_cons];by_cases z:PyData.eqv k' k=true
  ·rw [IV z,IV z];exact ⟨j,v,_,rfl,e,h0,hd,pq hd h2⟩
  ·rw [IU z,IU z];exact ⟨j,w,_,rfl,e,h0,h1,pq hd h2⟩
theorem v7 {k d:PyData} {j v:V} (hk:hk6 k=true) (hj:Dm K F H k j) (hd:Dm K F H d v):∀ {ds:List (PyData×PyData)} {xs:List (PyData×V×V)},DmP K F H ds xs->DmP K F H (ds++[(k,d)]) (xs++[(k,j,v)])
 | [],xs,h=>by rw [show xs=[] from h];exact ⟨j,v,[],rfl,hk,hj,hd,rfl⟩
 | (k',d') :: ds,xs,h=>by
  obtain ⟨i,w,r,rfl,e,h0,h1,h2⟩:=h;exact ⟨i,w,_,rfl,e,h0,h1,v7 hk hj hd h2⟩
theorem vO {k d:PyData} {j v:V} {ds:List (PyData×PyData)} {xs:List (PyData×V×V)} (h:DmP K F H ds xs) (hk:hk6 k=true) (hj:Dm K F H k j) (hd:Dm K F H d v):DmP K F H (putD ds k d) (mD xs k j v):=by
 unfold putD mD;rw [vC h];split
 ·exact pq hd h
 ·exact v7 hk hj hd h
theorem zR {kvs:List (Key×V)} {k:Key} {v:V}:(putK kvs k v).map cvK=mD (kvs.map cvK) (kD k) (kV k) v:=by
 unfold putK mD;have e:((kvs.map cvK).any fun x=>PyData.eqv x.1 (kD k))=kvs.any fun kv=>decide (kv.1=k):=by
  rw [List.any_map];congr 1;funext kv;exact vK _ _
 rw [e];split
 ·rw [KI,KI];refine List.map_congr_left fun kv _=>?_;show cvK (if kv.1=k then (kv.1,v) else kv)=if PyData.eqv (kD kv.1) (kD k)=true then _ else _
  rw [vK];by_cases z:kv.1=k
  ·rw [IV z,IV (Jq z)];rfl
  ·rw [IU z,IU (by simp [z])]
 ·rw [Ju];rfl
theorem uf {kvs:List (Key×V)} {k:Key} {v:V}:(putK kvs k v).length<=kvs.length+1:=by
 unfold putK;split
 ·rw [II];exact Nat.le_succ _
 ·rw [IH];exact IY _
theorem Bl (k:Key):hk6 (kD k)=true:=by cases k <;> rfl
theorem mC:∀ {kvs:List (Key×PyData)} {vs:List (Key×V)} {ds:List (PyData×PyData)} {xs:List (Key×V)},BK K F H kvs vs->DmP K F H ds (xs.map cvK)->DmP K F H (kvs.foldl (fun acc kv=>putD acc (kD kv.1) kv.2) ds) ((cA xs vs).map cvK)/\(cA xs vs).length<=xs.length+vs.length
 | [],vs,ds,xs,h,q=>by rw [show vs=[] from h];exact ⟨q,IY _⟩
 | (k,d) :: kvs,vs,ds,xs,h,q=>by
  obtain ⟨v,r,rfl,h0,h1,h2⟩:=h;have:=mC h2 (xs:=putK xs k v) (by rw [zR];exact vO q (Bl k) h0 h1);refine ⟨this.1,Jt this.2 ?_⟩;have:=uf (kvs:=xs) (k:=k) (v:=v);rw [Jf];omega
theorem BK.len:∀ {kvs:List (Key×PyData)} {vs:List (Key×V)},BK K F H kvs vs->vs.length=kvs.length
 | [],vs,h=>by rw [show vs=[] from h];rfl
 | (k,d) :: kvs,vs,h=>by
  obtain ⟨v,r,rfl,h0,h1,h2⟩:=h;rw [Jf,Jf,h2.len]
theorem EY:SPs K ga gd .nil:=by
 intro env kvs env' h F0 H₀ I σ H Q R q;simp only [dP] at h;cases h;exact q [] H R (KpE.refl _) rfl
theorem Cj {k e:XE} {r:XP} (ik:SE K ga gd k) (ie:SE K ga gd e) (ir:SPs K ga gd r):SPs K ga gd (.cons k e r):=by
 intro env kvs env' h F0 H₀ I σ H Q R q;simp only [dP] at h;split at h
 ·rename_i rk e1 h1;split at h
  ·rename_i rv e2 h2;split at h
   ·rename_i kvs' e3 h3;split at h
    ·rename_i dk d hk hd;split at h
     ·rename_i key hkey;cases h;refine ik _ _ _ h1 F0 H₀ I σ H _ R fun v H1 R1 k1 r1=>?_;refine ie _ _ _ h2 F0 _ _ σ H1 _ R1.rebase fun u H2 S2 k2 r2=>?_;have R2:=R1.aK S2;refine ir _ _ _ h3 F0 _ _ σ H2 _ R2.rebase fun vs H3 S3 k3 r3=>?_;have a1:=r1.av;rw [hk] at a1;have a2:=r2.av;rw [hd] at a2;have ev:v=kV key:=by
       cases dk with
       | int i=>cases hkey;exact (show v=.int i from a1)
       | str x=>cases hkey;exact (show v=.str x/\_ from a1).1
       | _=>cases hkey
      have dd:Dm K (FF F0 env' σ) H3 d u:=R2.mF S3 k3 a2;have dk':Dm K (FF F0 env' σ) H3 (kD key) (kV key):=by
       cases dk with
       | int i=>cases hkey;rfl
       | str x=>cases hkey;exact ⟨rfl,(show v=.str x/\_ from a1).2⟩
       | _=>cases hkey
      rw [ev];exact q ((key,u) :: vs) H3 (R2.aK S3) ((k1.trans k2).trans k3) ⟨u,vs,rfl,dk',dd,r3⟩
     ·cases h
    ·cases h
   ·cases h
  ·cases h
 ·cases h
theorem Ez {as:XP} (ih:SPs K ga gd as):SE K ga gd (.dsp as):=by
 intro env rv env' h F0 H₀ I σ H Q R q;simp only [dE] at h;split at h
 ·rename_i kvs e1 h1;split at h
  ·rename_i hl;cases h;intro p hp;have s:=aw.nw (.dD 0 []) hp;have r0:cP K F0 H₀ I env σ (upd H p (.dD 0 [])) (.frs (.dict [])) (.ref p):=R.ko (pr:=.frs (.dict [])) s ⟨p,rfl,hp,0,[],ag,by decide,rfl⟩;have R0:=r0;obtain ⟨a,ea,R0,_,_,nF,hi,_⟩:=R0;cases ea;have cIA:¬IA env σ p:=fun z=>by
    obtain ⟨i,⟨c,e | e⟩,s⟩:=z
    ·exact nF (.inr ⟨i,c,e,s⟩)
    ·exact hi i c e s
   refine ih _ _ _ h1 _ _ _ σ _ _ R0.rebase fun vs H2 S2 k2 ps=>?_;have r2:=r0.carry S2 k2;rw [dO] at ps;have hm:=mC ps (xs:=[]) (show DmP K (fun b=>FF F0 env' σ b\/b=p) H2 [] [] from rfl);have hlen:(cA [] vs).length<=15:=by
    have:=hm.2;rw [ps.len] at this;simp only [Kp] at this;omega
   refine ⟨S2.b8 p _ ag cIA,vs,rfl,by rw [ps.len];exact hl,fun ep=>?_⟩;have r3:cP K F0 H₀ I env' σ (upd H2 p (.dD ep ((cA [] vs).map cvK))) (.frs (.dict (kvs.foldl (fun acc kv=>putD acc (kD kv.1) kv.2) []))) (.ref p):=by
    refine r2.put ⟨ep,(cA [] vs).map cvK,ag,by rw [II];exact Jt hlen (by decide),hm.1.pr ?_ fun _ z=>z⟩;intro b u e n;by_cases z:b=p
    ·subst z;rcases n with n | n
     ·exact absurd (.inr rfl) n
     ·have:=S2.b8 b _ ag cIA;rw [e] at this;cases this;cases n
    ·rw [ae z];exact e
   exact q _ _ r3.rel k2 r3
  ·cases h
 ·cases h
end
end L2
end
section
namespace L2
open PySem
section
variable {K:Fg} {F F' I I' F0:Addr->Prop} {H H' H₀:Hp} {env env':En} {σ σ':St} {ga:Nat->V} {gd:List PyData}
theorem jN {α:Type}:∀ {l:List α} {i j:Nat} {x:α},l.Nodup->l[i]?=some x->l[j]?=some x->i=j
 | [],_,_,_,_,h,_=>by simp at h
 | y :: l,0,0,_,_,_,_=>rfl
 | y :: l,0,j+1,x,nd,h1,h2=>by
  simp at h1 h2;subst h1;exact absurd (Jl h2) (J4.mp nd).1
 | y :: l,i+1,0,x,nd,h1,h2=>by
  simp at h1 h2;subst h2;exact absurd (Jl h1) (J4.mp nd).1
 | y :: l,i+1,j+1,x,nd,h1,h2=>by
  simp at h1 h2;rw [jN (J4.mp nd).2 h1 h2]
noncomputable def noOwn (env:En):Prop:=∀ (i:Nat) (d:PyData),env[i]?≠some (.own d)
theorem bK (h:noOwn env):FF F0 env σ=F0:=by
 funext b;apply propext;constructor
 ·rintro (q | ⟨i,d,e,_⟩)
  ·exact q
  ·exact absurd e (h i d)
 ·exact .inl
theorem noOwn.kp (h:noOwn env) (k:KpE env env'):noOwn env':=fun i d e=>by
 obtain ⟨d',e'⟩:=k.own e;exact h i d' e'
noncomputable def nS:Sl->Prop | .dat _=>True | .un=>True | _=>False
theorem fH {pre:En} {ps:St} (hp:∀ s∈pre,nS s) (hl:pre.length=ps.length):FF F0 (pre++env) (ps++σ)=FF F0 env σ:=by
 funext b;apply propext;constructor
 ·rintro (q | ⟨i,d,e,s⟩)
  ·exact .inl q
  ·by_cases hi:i < pre.length
   ·rw [Jg hi] at e;have:=hp _ (Jl e);exact absurd this id
   ·rw [IM (by omega)] at e;rw [IM (by omega),<-hl] at s;exact .inr ⟨_,d,e,s⟩
 ·rintro (q | ⟨i,d,e,s⟩)
  ·exact .inl q
  ·refine .inr ⟨pre.length+i,d,?_,?_⟩
   ·rw [IM (by omega)];simpa using e
   ·rw [IM (by omega),hl];simpa using s
theorem jl {pre:En} (hp:∀ s∈pre,nS s) {i:Nat} (h:mu (pre++env) i):pre.length<=i/\mu env (i - pre.length):=by
 obtain ⟨d,h⟩:=h;by_cases hi:i < pre.length
 ·rw [Jg hi] at h;rcases h with h | h <;> exact absurd (hp _ (Jl h)) id
 ·rw [IM (by omega)] at h;exact ⟨by omega,d,h⟩
theorem mX {pre:En} {ps:St} (hp:∀ s∈pre,nS s) (hl:pre.length=ps.length):IA (pre++env) (ps++σ)=IA env σ:=by
 funext b;apply propext;constructor
 ·rintro ⟨i,m,s⟩;obtain ⟨hi,m'⟩:=jl hp m;rw [IM (by omega),<-hl] at s;exact ⟨_,m',s⟩
 ·rintro ⟨i,⟨d,m⟩,s⟩;refine ⟨pre.length+i,⟨d,?_⟩,?_⟩
  ·rw [IM (by omega)];simpa using m
  ·rw [IM (by omega),hl];simpa using s
theorem Rel.front (R:Rel K F0 H₀ I env σ H) {ds:List PyData} {vs:List V} (h:DmL K (FF F0 env σ) H ds vs):Rel K F0 H₀ I (ds.map .dat++env) (vs.map some++σ) H:=by
 have hp:∀ s∈(ds.map Sl.dat),nS s:=fun s hs=>by obtain ⟨d,_,rfl⟩:=Jz.mp hs;trivial
 have hl:(ds.map Sl.dat).length=(vs.map some).length:=by rw [II,II,h.len]
 have hl2:(ds.map Sl.dat).length=ds.length:=II _;have eF:=fH (F0:=F0) (env:=env) (σ:=σ) hp hl;have eI:=mX (env:=env) (σ:=σ) hp hl;have back:∀ {i:Nat} {s:Sl},(ds.map Sl.dat++env)[i]?=some s->(∀ d,s≠.dat d)->(ds.map Sl.dat).length<=i/\env[i - (ds.map Sl.dat).length]?=some s:=fun {i s} e n=>by
  by_cases hi:i < (ds.map Sl.dat).length
  ·rw [Jg hi] at e;obtain ⟨d,_,z⟩:=Jz.mp (Jl e);exact absurd z.symm (n d)
  ·rw [IM (by omega)] at e;exact ⟨by omega,e⟩
 have fs:∀ {i:Nat} {x:Option V},(ds.map Sl.dat).length<=i->σ[i - (ds.map Sl.dat).length]?=some x->(vs.map some++σ)[i]?=some x:=fun {i x} hi e=>by
  rw [IM (by omega),<-hl];exact e
 refine ⟨by rw [IH,IH,hl,R.len],fun i d e=>?_,fun i d e=>?_,fun i d e=>?_,fun i d e=>?_,fun i j a h1 h2 h3 h4=>?_,R.dom,R.b8⟩
 ·rw [eF];by_cases hi:i < (ds.map Sl.dat).length
  ·rw [Jg hi,IX] at e;cases e2:ds[i]? with
   | none=>rw [e2] at e;cases e
   | some d' =>
    rw [e2] at e;cases e;obtain ⟨v,q,r⟩:=h.get e2;refine ⟨v,?_,r⟩;rw [Jg (by omega),IX,q];rfl
  ·rw [IM (by omega)] at e;obtain ⟨v,s,r⟩:=R.dat _ d e;exact ⟨v,fs (by omega) s,r⟩
 ·rw [eF];obtain ⟨hi,e⟩:=back e (fun _=>nofun);obtain ⟨a,s,q⟩:=R.own _ d e;exact ⟨a,fs hi s,q⟩
 ·rw [eF];obtain ⟨hi,e⟩:=back e (fun _=>nofun);obtain ⟨a,s,q⟩:=R.ino _ d e;exact ⟨a,fs hi s,q⟩
 ·rw [eF,eI];obtain ⟨hi,e⟩:=back e (fun _=>nofun);obtain ⟨a,s,q⟩:=R.ro _ d e;exact ⟨a,fs hi s,q⟩
 ·obtain ⟨i1,m1⟩:=jl hp h1;obtain ⟨i2,m2⟩:=jl hp h2;rw [IM (by omega),<-hl] at h3 h4;have:=R.sep _ _ a m1 m2 h3 h4;omega
theorem Rel.behind {pre:En} {ps:St} (R:Rel K F0 H₀ I (pre++env) (ps++σ) H) (hp:∀ s∈pre,nS s) (hl:pre.length=ps.length):Rel K F0 H₀ I env σ H:=by
 have eF:=fH (F0:=F0) (env:=env) (σ:=σ) hp hl;have eI:=mX (env:=env) (σ:=σ) hp hl;have up:∀ {i:Nat} {s:Sl},env[i]?=some s->(pre++env)[pre.length+i]?=some s:=fun {i s} e=>by
  rw [IM (by omega)];simpa using e
 have dn:∀ {i:Nat} {x:Option V},(ps++σ)[pre.length+i]?=some x->σ[i]?=some x:=fun {i x} e=>by
  rw [IM (by omega),hl] at e;simpa using e
 have us:∀ {i:Nat} {x:Option V},σ[i]?=some x->(ps++σ)[pre.length+i]?=some x:=fun {i x} e=>by
  rw [IM (by omega),hl];simpa using e
 refine ⟨by have:=R.len;rw [IH,IH,hl] at this;omega,fun i d e=>?_,fun i d e=>?_,fun i d e=>?_,fun i d e=>?_,fun i j a h1 h2 h3 h4=>?_,R.dom,R.b8⟩
 ·obtain ⟨v,s,r⟩:=R.dat _ d (up e);rw [eF] at r;exact ⟨v,dn s,r⟩
 ·obtain ⟨v,s,r⟩:=R.own _ d (up e);rw [eF] at r;exact ⟨v,dn s,r⟩
 ·obtain ⟨v,s,r⟩:=R.ino _ d (up e);rw [eF] at r;exact ⟨v,dn s,r⟩
 ·obtain ⟨v,s,r⟩:=R.ro _ d (up e);rw [eF,eI] at r;exact ⟨v,dn s,r⟩
 ·obtain ⟨d1,m1⟩:=h1;obtain ⟨d2,m2⟩:=h2;have:=R.sep (pre.length+i) (pre.length+j) a ⟨d1,m1.imp up up⟩ ⟨d2,m2.imp up up⟩ (us h3) (us h4);omega
theorem KpE.front {ds:List PyData} {e':En} (k:KpE (ds.map .dat++env) e'):∃ env',e'=ds.map .dat++env'/\KpE env env':=by
 have hlen:=k.1;rw [IH,II] at hlen;refine ⟨e'.drop ds.length,?_,?_,fun i s e=>?_⟩
 ·apply LJ;intro i;by_cases hi:i < ds.length
  ·have hm:(ds.map Sl.dat++env)[i]?=some (.dat ds[i]):=by
    rw [Jg (by rw [II];exact hi),IX,IG hi];rfl
   obtain ⟨s',h',ev⟩:=k.2 i _ hm;have ev:s'=.dat ds[i]:=ev;rw [h',ev,Jg (by rw [II];exact hi),IX,IG hi];rfl
  ·rw [IM (by rw [II];omega),List.getElem?_drop,II];congr 1;omega
 ·rw [Ki];omega
 ·obtain ⟨s',h',ev⟩:=k.2 (ds.length+i) s (by rw [IM (by rw [II];omega),II];simpa using e);exact ⟨s',by rw [List.getElem?_drop];exact h',ev⟩
theorem dh {lock:Option Nat} {js:List Nat} {k:Nat} {s:Sl} (h:(b5 env lock js)[k]?=some s):∃ j,js[k]?=some j/\s=lP (decide (lock=some j)) (env[j]?.getD .un):=by
 unfold b5 at h;rw [IX] at h;cases e:js[k]? with
 | none=>rw [e] at h;cases h
 | some j=>rw [e] at h;cases h;exact ⟨j,rfl,rfl⟩
theorem mw {js:List Nat} {k j:Nat} (h:js[k]?=some j):(aN js σ)[k]?=some ((σ[j]?).getD none):=by
 unfold aN;rw [IX,h];rfl
theorem bA {lock:Option Nat} {js:List Nat}:noOwn (b5 env lock js):=fun k d e=>by
 obtain ⟨j,_,e'⟩:=dh e;cases h:env[j]?.getD .un with
 | un=>rw [h] at e';cases e'
 | dat _=>rw [h] at e';cases e'
 | own c=>rw [h] at e';unfold lP at e';simp only at e';split at e' <;> cases e'
 | ino c=>rw [h] at e';unfold lP at e';simp only at e';split at e' <;> cases e'
 | ro _=>rw [h] at e';cases e'
theorem getD_some {j:Nat} {s:Sl} (h:env[j]?.getD .un=s) (n:s≠.un):env[j]?=some s:=by
 cases e:env[j]? with
 | none=>rw [e] at h;exact absurd h.symm n
 | some t=>rw [e] at h;cases h;rfl
theorem mB {lock:Option Nat} {js:List Nat} {k:Nat} {d:PyData} (h:(b5 env lock js)[k]?=some (.ino d)):∃ j,js[k]?=some j/\lock≠some j/\(env[j]?=some (.own d)\/env[j]?=some (.ino d)):=by
 obtain ⟨j,hj,e'⟩:=dh h;refine ⟨j,hj,?_⟩;cases h:env[j]?.getD .un with
 | un=>rw [h] at e';cases e'
 | dat _=>rw [h] at e';cases e'
 | own c =>
  rw [h] at e';unfold lP at e';simp only at e';split at e'
  ·cases e'
  ·rename_i n;cases e';exact ⟨by simpa using n,.inl (getD_some h nofun)⟩
 | ino c =>
  rw [h] at e';unfold lP at e';simp only at e';split at e'
  ·cases e'
  ·rename_i n;cases e';exact ⟨by simpa using n,.inr (getD_some h nofun)⟩
 | ro _=>rw [h] at e';cases e'
theorem cq {lock:Option Nat} {js:List Nat} {k:Nat} (h:mu (b5 env lock js) k):∃ j,js[k]?=some j/\lock≠some j/\mu env j:=by
 obtain ⟨d,h | h⟩:=h
 ·exact absurd h (bA k d)
 ·obtain ⟨j,h1,h2,h3⟩:=mB h;exact ⟨j,h1,h2,d,h3⟩
theorem aT {js:List Nat} {k j:Nat} {a:Addr} (h:js[k]?=some j) (e:(aN js σ)[k]?=some (some (.ref a))):σ[j]?=some (some (.ref a)):=by
 rw [mw h] at e;cases q:σ[j]? with
 | none=>rw [q] at e;cases e
 | some x=>rw [q] at e;cases e;rfl
theorem bE {js:List Nat} {k j:Nat} {v:V} (h:js[k]?=some j) (e:σ[j]?=some (some v)):(aN js σ)[k]?=some (some v):=by rw [mw h,e];rfl
theorem Rel.aN (R:Rel K F0 H₀ I env σ H) {lock:Option Nat} {js:List Nat} (nd:js.Nodup):Rel K (FF F0 env σ) H (IA (b5 env lock js) (L2.aN js σ)) (b5 env lock js) (L2.aN js σ) H:=by
 have eF:FF (FF F0 env σ) (b5 env lock js) (L2.aN js σ)=FF F0 env σ:=bK bA;have sub:∀ b,IA (b5 env lock js) (L2.aN js σ) b->IA env σ b:=fun b ⟨k,m,s⟩=>by
  obtain ⟨j,hj,_,mj⟩:=cq m;exact ⟨j,mj,aT hj s⟩
 refine ⟨by unfold b5 L2.aN;rw [II,II],fun k d e=>?_,fun k d e=>absurd e (bA k d),fun k d e=>?_,fun k d e=>?_,fun k l a h1 h2 h3 h4=>?_,fun b h=>R.cN h,fun _ _ h _=>h⟩
 ·rw [eF];obtain ⟨j,hj,e'⟩:=dh e;have ej:env[j]?=some (.dat d):=by
   cases h:env[j]?.getD .un with
   | un=>rw [h] at e';cases e'
   | dat c=>rw [h] at e';cases e';exact getD_some h nofun
   | own c=>rw [h] at e';unfold lP at e';simp only at e';split at e' <;> cases e'
   | ino c=>rw [h] at e';unfold lP at e';simp only at e';split at e' <;> cases e'
   | ro _=>rw [h] at e';cases e'
  obtain ⟨v,s,r⟩:=R.dat j d ej;exact ⟨v,bE hj s,r⟩
 ·rw [eF];obtain ⟨j,hj,_,ej⟩:=mB e;have:∃ a,σ[j]?=some (some (.ref a))/\FF F0 env σ a/\Top K (FF F0 env σ) H d a:=by
   rcases ej with ej | ej
   ·obtain ⟨a,s,_,_,t⟩:=R.own j d ej;exact ⟨a,s,.inr ⟨j,d,ej,s⟩,t⟩
   ·obtain ⟨a,s,f,_,t⟩:=R.ino j d ej;exact ⟨a,s,.inl f,t⟩
  obtain ⟨a,s,f,t⟩:=this;exact ⟨a,bE hj s,f,⟨k,⟨d,.inr e⟩,bE hj s⟩,t⟩
 ·rw [eF];obtain ⟨j,hj,e'⟩:=dh e;have lk:∀ a,lock=some j->mu env j->σ[j]?=some (some (.ref a))->¬IA (b5 env lock js) (L2.aN js σ) a:=fun a hl m s ⟨k',m',s'⟩=>by
   obtain ⟨j',hj',hn,mj'⟩:=cq m';have:=R.sep j' j a mj' m (aT hj' s') s;subst this;exact hn hl
  cases h:env[j]?.getD .un with
  | un=>rw [h] at e';cases e'
  | dat c=>rw [h] at e';cases e'
  | own c =>
   rw [h] at e';unfold lP at e';simp only at e';split at e'
   ·rename_i n;cases e';have ej:=getD_some h nofun;obtain ⟨a,s,_,_,t⟩:=R.own j d ej;exact ⟨a,bE hj s,t.ro (lk a (by simpa using n) ⟨d,.inl ej⟩ s)⟩
   ·cases e'
  | ino c =>
   rw [h] at e';unfold lP at e';simp only at e';split at e'
   ·rename_i n;cases e';have ej:=getD_some h nofun;obtain ⟨a,s,_,_,t⟩:=R.ino j d ej;exact ⟨a,bE hj s,t.ro (lk a (by simpa using n) ⟨d,.inr ej⟩ s)⟩
   ·cases e'
  | ro c =>
   rw [h] at e';cases e';obtain ⟨a,s,t⟩:=R.ro j d (getD_some h nofun);exact ⟨a,bE hj s,t.pr Pr.refl (fun _ z=>z) sub fun _ _ z _=>z⟩
 ·obtain ⟨j1,e1,_,m1⟩:=cq h1;obtain ⟨j2,e2,_,m2⟩:=cq h2;have:=R.sep j1 j2 a m1 m2 (aT e1 h3) (aT e2 h4);subst this;exact jN nd e1 e2
theorem aC:∀ (env:En) (js:List Nat) (es:En),SmK env (ar env js es)
 | env,[],es=>by unfold ar;exact SmK.refl _
 | env,j :: js,[]=>by unfold ar;exact SmK.refl _
 | env,j :: js,s :: es=>by
  cases s with
  | ino d=>unfold ar;exact (cK env j d).trans (aC _ js es)
  | un=>unfold ar;exact aC _ js es
  | dat _=>unfold ar;exact aC _ js es
  | own _=>unfold ar;exact aC _ js es
  | ro _=>unfold ar;exact aC _ js es
theorem aF:∀ (env:En) (js:List Nat) (es:En) (i:Nat),i ∉ js->(ar env js es)[i]?=env[i]?
 | env,[],es,i,_=>by unfold ar;rfl
 | env,j :: js,[],i,_=>by unfold ar;rfl
 | env,j :: js,s :: es,i,h=>by
  have n:i≠j:=fun z=>h (by rw [z];exact IP);have n':i ∉ js:=fun z=>h (IZ _ z);cases s with
  | ino d=>unfold ar;rw [aF _ js es i n',i6 n]
  | un=>unfold ar;exact aF _ js es i n'
  | dat _=>unfold ar;exact aF _ js es i n'
  | own _=>unfold ar;exact aF _ js es i n'
  | ro _=>unfold ar;exact aF _ js es i n'
theorem cG:∀ (env:En) (js:List Nat) (es:En) (k i:Nat) (s:Sl),js.Nodup->js[k]?=some i->es[k]?=some s->(∀ d,s=.ino d->mu env i->az (ar env js es) i=some d)/\((∀ d,s≠.ino d)->(ar env js es)[i]?=env[i]?)
 | env,[],es,k,i,s,_,h,_=>by simp at h
 | env,j :: js,[],k,i,s,_,_,h=>by simp at h
 | env,j :: js,t :: es,0,i,s,nd,h,h'=>by
  obtain ⟨n1,nd'⟩:=J4.mp nd;simp at h h';subst h h';constructor
  ·rintro d rfl m;unfold ar;have:=aF (dQ env j d) js es j n1;unfold az;rw [this];exact ji m
  ·intro hn;cases t with
   | ino d=>exact absurd rfl (hn d)
   | un=>unfold ar;exact aF _ js es j n1
   | dat _=>unfold ar;exact aF _ js es j n1
   | own _=>unfold ar;exact aF _ js es j n1
   | ro _=>unfold ar;exact aF _ js es j n1
 | env,j :: js,t :: es,k+1,i,s,nd,h,h'=>by
  obtain ⟨n1,nd'⟩:=J4.mp nd;simp at h h';have hi:i∈js:=Jl h;have ne:i≠j:=fun z=>n1 (z▸hi);cases t with
  | ino d =>
   unfold ar;have ih:=cG (dQ env j d) js es k i s nd' h h';refine ⟨fun d' e m=>ih.1 d' e ((cK env j d).symm.kp.mu m),fun hn=>?_⟩;rw [ih.2 hn,i6 ne]
  | un=>unfold ar;exact cG env js es k i s nd' h h'
  | dat _=>unfold ar;exact cG env js es k i s nd' h h'
  | own _=>unfold ar;exact cG env js es k i s nd' h h'
  | ro _=>unfold ar;exact cG env js es k i s nd' h h'
theorem KpE.C8 (k:KpE env env') {i:Nat} {d:PyData} (e:env[i]?=some (.ino d)):∃ d',env'[i]?=some (.ino d'):=by
 obtain ⟨s',h,ev⟩:=k.2 i _ e;obtain ⟨d',rfl⟩:=ev;exact ⟨d',h⟩
theorem Rel.back (R:Rel K F0 H₀ I env σ H) {lock:Option Nat} {js:List Nat} {ec:En} (nd:js.Nodup) (S:Rel K (FF F0 env σ) H (IA (b5 env lock js) (L2.aN js σ)) ec (L2.aN js σ) H') (k:KpE (b5 env lock js) ec):Rel K F0 H₀ I (ar env js ec) σ H':=by
 have sub:∀ b,IA (b5 env lock js) (L2.aN js σ) b->IA env σ b:=fun b ⟨k,m,s⟩=>by
  obtain ⟨j,hj,_,mj⟩:=cq m;exact ⟨j,mj,aT hj s⟩
 have hk:∀ b o,H b=some o->¬IA env σ b->H' b=some o:=fun b o e n=>S.b8 b o e fun z=>n (sub b z);have eFc:FF (FF F0 env σ) ec (L2.aN js σ)=FF F0 env σ:=bK (bA.kp k);refine R.chg (aC env js ec) hk fun i d a hm hs=>?_;have sm:=aC env js ec;have mi:mu env i:=sm.kp.mu ((l7 hm).elim (fun e=>⟨d,.inl e⟩) fun e=>⟨d,.inr e⟩);have jQ:(ar env js ec)[i]?=env[i]?->¬IA (b5 env lock js) (L2.aN js σ) a->Top K (FF F0 env σ) H' d a:=fun e n=>by
  have hm':az env i=some d:=by unfold az at hm ⊢;rwa [e] at hm
  obtain ⟨_,a',s',_,t⟩:=R.bW hm';rw [hs] at s';cases s';exact t.pr (R.mR hk) (fun _ z=>z) fun o e=>S.b8 a o e n
 by_cases hi:i∈js
 ·obtain ⟨p,hp⟩:=KO.mp hi;have hlen:ec.length=js.length:=by rw [k.1];unfold b5;rw [II]
  have hpl:p < js.length:=(IK.mp hp).1;have he:ec[p]?=some (ec[p]'(by omega)):=IG _;obtain ⟨b1,b2⟩:=cG env js ec p i _ nd hp he;by_cases hl:lock=some i
  ·-- locked
   refine jQ (b2 fun d' z=>?_) ?_
   ·rw [z] at he;obtain ⟨s,e0,ev⟩:=k.back he;obtain ⟨j,hj,e'⟩:=dh e0;rw [hp] at hj;cases hj;obtain ⟨c,hc | hc⟩:=mi
    ·rw [hc] at e';simp only [Option.getD_some,lP,hl,decide_true,LF] at e';subst e';cases ev
    ·rw [hc] at e';simp only [Option.getD_some,lP,hl,decide_true,LF] at e';subst e';cases ev
   ·rintro ⟨q,mq,sq⟩;obtain ⟨j',hj',hn,mj'⟩:=cq mq;have:=R.sep j' i a mj' mi (aT hj' sq) hs;subst this;exact hn hl
  ·have:∃ c,(b5 env lock js)[p]?=some (.ino c):=by
    unfold b5;rw [IX,hp];obtain ⟨c,hc | hc⟩:=mi
    ·exact ⟨c,by rw [Option.map_some,hc];simp [lP,hl]⟩
    ·exact ⟨c,by rw [Option.map_some,hc];simp [lP,hl]⟩
   obtain ⟨c,hc⟩:=this;obtain ⟨d',hd'⟩:=k.C8 hc;rw [he] at hd';have ed:=b1 d' (JQ hd') mi;rw [hm] at ed;cases ed;obtain ⟨a',s',_,_,t⟩:=S.ino p d (by rw [he];exact hd');have:=aT hp s';rw [hs] at this;cases this
   rwa [eFc] at t
 ·refine jQ (aF env js ec i hi) ?_;rintro ⟨q,mq,sq⟩;obtain ⟨j',hj',hn,mj'⟩:=cq mq;have:=R.sep j' i a mj' mi (aT hj' sq) hs;subst this;exact hi (Jl hj')
end
end L2
end
section
namespace L2
open PySem
section
variable {K:Fg} {F F' I I' F0:Addr->Prop} {H H' H₀ H1:Hp} {env env' e1:En} {σ σ':St} {ga:Nat->V} {gd:List PyData}
noncomputable def F4 (K:Fg) (F:Addr->Prop) (H:Hp) (acc:List V):Option PyData->List V->Prop
 | none,acc'=>acc'=acc
 | some d,acc'=>∃ v,acc'=acc++[v]/\Dm K F H d v
theorem sJ {step:PyData->En->Option (Option PyData×En)} {ds ys:List PyData} {ec:En} {lock:Option Nat} {js:List Nat} {J:It} {Q:VK} {τ:Type} {TI:τ->Prop} {t0:τ} {body:τ->List V->V->Hp->(τ->List V->Hp->Prop)->Prop} (ht0:TI t0)
  (R1:Rel K F0 H₀ I e1 σ H1) (nd:js.Nodup) (hit:uh K (FF F0 e1 σ) (fun b=>IA e1 σ b/\∀ i,lock=some i->mu e1 i->σ[i]?≠some (some (.ref b))) H1 J ds) (h2:s8 step ds (b5 e1 lock js)=some (ys,ec))
  (turn:∀ t acc d envc y envc' x H',TI t->step d envc=some (y,envc')->Rel K (FF F0 e1 σ) H1 (IA (b5 e1 lock js) (aN js σ)) envc (aN js σ) H'->noOwn envc->Dm K (FF F0 e1 σ) H' d x->∀ N:τ->List V->Hp->Prop,
   (∀ t' acc' H2,TI t'->Rel K (FF F0 e1 σ) H1 (IA (b5 e1 lock js) (aN js σ)) envc' (aN js σ) H2->KpE envc envc'->Pr (FF F0 e1 σ) H' H2->F4 K (FF F0 e1 σ) H2 acc y acc'->N t' acc' H2)->body t acc x H' N)
  (fin:∀ acc H',Rel K F0 H₀ I (ar e1 js ec) σ H'->DmL K (FF F0 e1 σ) H' ys acc->acc.length<=sizeLine->∀ p,H' p=none->Q (.ref p) (upd H' p (.lst acc))) :
  ∃ W:Nat->Nat->τ->List V->Hp->Prop,(∃ m,W 0 m t0 [] H1)/\∀ i m t acc H,W i m t acc H ->
   (J.stop i H/\acc.length<=sizeLine/\∀ p,H p=none->Q (.ref p) (upd H p (.lst acc)))\/(J.go i H/\acc.length < sizeLine/\∀ x H',J.yld i H x H'->body t acc x H' fun t' acc' H2=>∃ m',m' < m/\W (i+1) m' t' acc' H2):=by
 obtain ⟨hvl,hturn⟩:=hit;have sub:∀ b,IA (b5 e1 lock js) (aN js σ) b->IA e1 σ b/\∀ i,lock=some i->mu e1 i->σ[i]?≠some (some (.ref b)):=fun b ⟨k,m,s⟩=>by
  obtain ⟨j,hj,hn,mj⟩:=cq m;refine ⟨⟨j,mj,aT hj s⟩,fun i hl mi si=>?_⟩;have:=R1.sep j i b mj mi (aT hj s) si;subst this;exact hn hl
 have Rc0:=R1.aN (lock:=lock) nd
 refine ⟨fun i m t acc H'=>TI t/\m=ds.length - i/\i<=ds.length/\acc.length<=i/\∃ envc done rest,s8 step (ds.drop i) envc=some (rest,ec)/\ys=done++rest/\Rel K (FF F0 e1 σ) H1 (IA (b5 e1 lock js) (aN js σ)) envc (aN js σ) H'/\KpE (b5 e1 lock js) envc/\DmL K (FF F0 e1 σ) H' done acc,
  ⟨ds.length,ht0,rfl,JZ _,IY _,b5 e1 lock js,[],ys,h2,rfl,Rc0,KpE.refl _,rfl⟩,?_⟩
 rintro i m t acc H' ⟨hti,rfl,hi,hal,envc,done,rest,hc,hy,Rc,kc,hacc⟩;have hkept:∀ b o,H1 b=some o->¬(IA e1 σ b/\∀ i,lock=some i->mu e1 i->σ[i]?≠some (some (.ref b)))->H' b=some o:=fun b o e n=>Rc.b8 b o e fun z=>n (sub b z);by_cases hlt:i < ds.length
 ·right;obtain ⟨go,yld⟩:=(hturn H' hkept i).1 (by omega);refine ⟨go,by omega,fun x H'' hx=>?_⟩;obtain ⟨d,hd,hy9⟩:=yld x H'' hx;obtain ⟨sm,hdx'⟩:=hy9.dm (F2:=FF F0 e1 σ) fun d v h=>h.pr (R1.mR fun b o e n=>hkept b o e fun z=>n z.1) fun _ z=>z;have Rc:=Rc.same sm;have hacc:=hacc.pr (fun b o e _=>sm b o e) fun _ z=>z;have ed:ds.drop i=d :: ds.drop (i+1):=by
   rw [Kg hlt];obtain ⟨_,q⟩:=IK.mp hd;rw [q]
  rw [ed] at hc;unfold s8 at hc;split at hc
  ·rename_i y envc' hs;split at hc
   ·rename_i ys' e2 hr;cases hc;refine turn t acc d envc y envc' x H'' hti hs Rc (bA.kp kc) hdx' _ fun t' acc' H2 ht' R2 k2 p2 ha=>⟨_,by omega,ht',rfl,by omega,?_,envc',done++y.toList,ys',hr,by rw [hy,Jn],R2,kc.trans k2,?_⟩
    ·cases y with
     | none=>rw [show acc'=acc from ha];omega
     | some dy=>obtain ⟨v,rfl,_⟩:=ha;rw [IH];simp;omega
    ·have hacc':=hacc.pr p2 fun _ z=>z;cases y with
     | none=>rw [show acc'=acc from ha];simpa using hacc'
     | some dy=>obtain ⟨v,rfl,hv⟩:=ha;exact hacc'.snoc hv
   ·cases hc
  ·cases hc
 ·left;have e:i=ds.length:=by omega
  subst e;have hz:acc.length<=sizeLine:=by omega
  rw [List.drop_length] at hc;unfold s8 at hc;cases hc;rw [Jp] at hy;subst hy;exact ⟨(hturn H' hkept _).2 (by omega),hz,fin acc H' (R1.back nd Rc kc) hacc hz⟩
theorem Fb {js:List Nat} {it:XI} {c:XT} {e:XE} (ii:SI K ga gd it) (ic:ST K ga gd c) (ie:SE K ga gd e):SE K ga gd (.cmp js it c e):=by
 intro env rv env' h F0 H₀ I σ H Q R q;simp only [dE] at h;split at h
 ·rename_i ds lock e1 h1;split at h
  ·rename_i nd;split at h
   ·rename_i ys ec h2;cases h;refine ii _ _ _ _ h1 F0 H₀ I σ H _ R fun J H1 R1 k1 _ hit=>?_;refine Exists.elim (sJ (Q:=Q) (τ:=Unit) (TI:=fun _=>True) (t0:=()) (body:=fun _ acc x H' N=>rT K ga c (some x :: aN js σ) H' fun b H2=>if b=true then rE K ga e (some x :: aN js σ) H2 fun y H3=>N () (acc++[y]) H3 else N () acc H2) trivial R1 nd hit h2 ?_ ?_) fun W hw=>?_
    rotate_right 1
    ·obtain ⟨w0,hW⟩:=hw;exact ⟨fun i m acc H=>W i m () acc H,w0,fun i m acc H w=>hW i m () acc H w⟩
    ·intro _ acc d envc y envc' x H' _ hs Rc no hd N hN;have eF:FF (FF F0 e1 σ) envc (aN js σ)=FF F0 e1 σ:=bK no;have Rx:Rel K (FF F0 e1 σ) H1 (IA (b5 e1 lock js) (aN js σ)) (.dat d :: envc) (some x :: aN js σ) H':=Rc.front (ds:=[d]) (vs:=[x]) ⟨x,[],rfl,by rw [eF];exact hd,rfl⟩;have frontF:∀ {e2:En},KpE envc e2->FF (FF F0 e1 σ) (.dat d :: e2) (some x :: aN js σ)=FF F0 e1 σ:=fun {e2} k=>by
      have:=fH (F0:=FF F0 e1 σ) (env:=e2) (σ:=aN js σ) (pre:=[.dat d]) (ps:=[some x]) (fun s hs=>by rw [Ja.mp hs];trivial) rfl;exact this.trans (bK (no.kp k))
     unfold bw at hs;split at hs
     ·rename_i e2 hT;split at hs
      ·rename_i rv e3 hE;split at hs
       ·rename_i dy hv;cases hs;refine ic _ _ _ hT _ _ _ _ H' _ Rx.rebase fun H2 S2 k2=>?_;rw [IV rfl];have R2:=Rx.aK S2;refine ie _ _ _ hE _ _ _ _ H2 _ R2.rebase fun v H3 S3 k3 r3=>?_;have R3:=R2.aK S3;obtain ⟨ex,e3',kx⟩:=(k2.trans k3).front (ds:=[d]);have k23:=k2.trans k3;subst e3';have ht:(([d].map Sl.dat)++ex).tail=ex:=rfl;obtain ⟨e2x,e2',k2x⟩:=k2.front (ds:=[d]);have p12:Pr (FF F0 e1 σ) H' H2:=by have:=Rx.mR S2.b8;rwa [frontF (KpE.refl _)] at this
        have p23:Pr (FF F0 e1 σ) H2 H3:=by
         have:=R2.mR S3.b8;rw [e2'] at this
         rwa [show FF (FF F0 e1 σ) ([d].map Sl.dat++e2x) (some x :: aN js σ)=FF F0 e1 σ from frontF k2x] at this
        have a3:=r3.av;rw [hv] at a3;have dv:Dm K (FF F0 e1 σ) H3 dy v:=by
         have:Dm K (FF (FF F0 e1 σ) ([d].map Sl.dat++ex) (some x :: aN js σ)) H3 dy v:=a3
         rwa [show FF (FF F0 e1 σ) ([d].map Sl.dat++ex) (some x :: aN js σ)=FF F0 e1 σ from frontF kx] at this
        exact hN () _ H3 trivial (R3.behind (pre:=[.dat d]) (ps:=[some x]) (fun s hs=>by rw [Ja.mp hs];trivial) rfl) kx (p12.trans p23 fun _ z=>z) ⟨v,rfl,dv⟩
       ·cases hs
      ·cases hs
     ·rename_i e2 hT;cases hs;refine ic _ _ _ hT _ _ _ _ H' _ Rx.rebase fun H2 S2 k2=>?_;rw [IU (by decide)];have R2:=Rx.aK S2;obtain ⟨ex,e2',kx⟩:=k2.front (ds:=[d]);subst e2';have p12:Pr (FF F0 e1 σ) H' H2:=by have:=Rx.mR S2.b8;rwa [frontF (KpE.refl _)] at this
      exact hN () _ H2 trivial (R2.behind (pre:=[.dat d]) (ps:=[some x]) (fun s hs=>by rw [Ja.mp hs];trivial) rfl) kx p12 rfl
     ·cases hs
    ·intro acc H' R' hd hz p hp;have eF:=(aC e1 js ec).ff (F0:=F0) (σ:=σ);have s:=aw.nw (.lst acc) hp;exact q _ _ (R'.same s) (k1.trans (aC e1 js ec).kp) (R'.ko (pr:=.frs (.list ys)) s ⟨p,rfl,hp,acc,ag,hz,by rw [eF];exact (hd.fresh hp).pr (Pr.of_same s) fun _ z=>z⟩)
   ·cases h
  ·cases h
 ·cases h
noncomputable def CB:St->Nat->List V->St
 | σ,_,[]=>σ
 | σ,k,v :: vs=>CB (σ.set k (some v)) (k+1) vs
theorem jE:∀ {vs:List V} {k:Nat} {σ:St} {H:Hp} {Q:St->Hp->Prop},Q (CB σ k vs) H->gNs (List.range' k vs.length) vs σ H Q
 | [],_,_,_,_,h=>⟨rfl,h⟩
 | v :: vs,k,σ,H,Q,h=>⟨v,vs,rfl,jE (vs:=vs) (k:=k+1) h⟩
theorem ml:∀ {vs:List V} {pre hd tl:St},hd.length=vs.length->CB (pre++(hd++tl)) pre.length vs=pre++(vs.map some++tl)
 | [],pre,hd,tl,h=>by
  have:hd=[]:=Jw h;subst this;rfl
 | v :: vs,pre,[],tl,h=>by cases h
 | v :: vs,pre,x :: hd,tl,h=>by
  have hl:hd.length=vs.length:=by simpa using h
  have e:(pre++(x :: hd++tl)).set pre.length (some v)=(pre++[some v])++(hd++tl):=by
   rw [List.set_append_right _ _ (IY _)];simp
  unfold CB;rw [e];have:=ml (vs:=vs) (pre:=pre++[some v]) (hd:=hd) (tl:=tl) hl;rw [IH] at this;rw [show pre.length+1=pre.length+[some v].length from rfl,this];simp
theorem rW (n:List Str):(qe n).length=n.length:=by unfold qe;rw [II]
theorem BZ {n:List Str} {js:List Nat} {it:XI} {e:XE} (ii:SI K ga gd it) (ie:SE K ga gd e):SE K ga gd (.sW n js it e):=by
 intro env rv env' h F0 H₀ I σ H Q R q;simp only [dE] at h;split at h
 ·rename_i ds lock e1 h1;split at h
  ·rename_i nd;split at h
   ·rename_i ys ec h2;cases h;refine ii _ _ _ _ h1 F0 H₀ I σ H _ R fun J H1 R1 k1 _ hit=>?_;refine Exists.elim (sJ (Q:=Q) (τ:=St) (TI:=fun t=>∃ hd:St,hd.length=n.length/\t=hd++aN js σ) (t0:=qe n++aN js σ) (body:=fun t acc x H' N=>gTp K (List.range n.length) x t H' fun σ2 H2=>rE K ga e σ2 H2 fun y H3=>N σ2 (acc++[y]) H3) ⟨qe n,rW n,rfl⟩ R1 nd hit h2 ?_ ?_) fun W hw=>?_
    rotate_right 1
    ·obtain ⟨w0,hW⟩:=hw;exact ⟨W,w0,hW⟩
    ·rintro t acc d envc y envc' x H' ⟨hd,hl,rfl⟩ hs Rc no hdx N hN;have eF:FF (FF F0 e1 σ) envc (aN js σ)=FF F0 e1 σ:=bK no;unfold jj at hs;split at hs
     ·rename_i xs;split at hs
      ·rename_i hxl;split at hs
       ·rename_i rv e3 hE;split at hs
        ·rename_i dy hv;cases hs;obtain ⟨a,vs,rfl,hq,hz,hdl⟩:=hdx;have hvl:vs.length=n.length:=by rw [hdl.len,hxl]
         refine ⟨a,vs,rfl,hq,by rw [J9];exact hvl,?_⟩;rw [List.range_eq_range',<-hvl];refine jE ?_;have es:CB (hd++aN js σ) 0 vs=vs.map some++aN js σ:=ml (pre:=[]) (by rw [hl,hvl]);rw [es];have Rx:Rel K (FF F0 e1 σ) H1 (IA (b5 e1 lock js) (aN js σ)) (xs.map .dat++envc) (vs.map some++aN js σ) H':=Rc.front (by rw [eF];exact hdl);have hpre:∀ s∈(xs.map Sl.dat),nS s:=fun s hs=>by obtain ⟨d,_,rfl⟩:=Jz.mp hs;trivial
         have hpl:(xs.map Sl.dat).length=(vs.map some).length:=by rw [II,II,hdl.len]
         have frontF:∀ {e2:En},KpE envc e2->FF (FF F0 e1 σ) (xs.map .dat++e2) (vs.map some++aN js σ)=FF F0 e1 σ:=fun {e2} k=>(fH hpre hpl).trans (bK (no.kp k));refine ie _ _ _ hE _ _ _ _ H' _ Rx.rebase fun v H3 S3 k3 r3=>?_;have R3:=Rx.aK S3;obtain ⟨ex,e3',kx⟩:=k3.front;subst e3';have p:Pr (FF F0 e1 σ) H' H3:=by have:=Rx.mR S3.b8;rwa [frontF (KpE.refl _)] at this
         have a3:=r3.av;rw [hv] at a3;have dv:Dm K (FF F0 e1 σ) H3 dy v:=by
          have:Dm K (FF (FF F0 e1 σ) (xs.map .dat++ex) (vs.map some++aN js σ)) H3 dy v:=a3
          rwa [frontF kx] at this
         have ed:(xs.map Sl.dat++ex).drop n.length=ex:=by rw [<- hxl,<-II (f:=Sl.dat),Lz]
         rw [ed] at hN;exact hN _ _ H3 ⟨vs.map some,by rw [II];exact hvl,rfl⟩ (R3.behind hpre hpl) kx p ⟨v,rfl,dv⟩
        ·cases hs
       ·cases hs
      ·cases hs
     ·cases hs
    ·intro acc H' R' hd hz p hp;have eF:=(aC e1 js ec).ff (F0:=F0) (σ:=σ);have s:=aw.nw (.lst acc) hp;exact q _ _ (R'.same s) (k1.trans (aC e1 js ec).kp) (R'.ko (pr:=.frs (.list ys)) s ⟨p,rfl,hp,acc,ag,hz,by rw [eF];exact (hd.fresh hp).pr (Pr.of_same s) fun _ z=>z⟩)
   ·cases h
  ·cases h
 ·cases h
mutual
theorem sE (hg:∀ g d,gd[g]?=some d->∀ F H,Dm K F H d (ga g)):∀ e:XE,SE K ga gd e
 | .var i=>Ge i | .mov i=>Ee i | .tke i=>FV i | .cst c=>Dj c | .glb g=>Gi hg g
 | .prm p as=>FY (sA hg as) | .met m o as=>Ew (sE hg o) (sA hg as) | .mtr m i as=>Df (sA hg as) | .call f as=>s_call (sA hg as)
 | .tup as=>DF (sA hg as) | .lst as=>F5 (sA hg as) | .dsp as=>Ez (sPs hg as) | .fst as=>DP (sF hg as)
 | .ifx c a b=>EO (sT hg c) (sE hg a) (sE hg b) | .sf a b=>Bm (sE hg a) (sE hg b) | .orv a b=>F7 (sE hg a) (sE hg b) | .zc a=>Bf (sE hg a)
 | .chn p q a b c=>FQ (sE hg a) (sE hg b) (sE hg c) | .sl2 p a b c=>Fq (sE hg a) (sE hg b) (sE hg c)
 | .cmp js it c e=>Fb (sI hg it) (sT hg c) (sE hg e) | .sW n js it e=>BZ (sI hg it) (sE hg e)
theorem sA (hg:∀ g d,gd[g]?=some d->∀ F H,Dm K F H d (ga g)):∀ e:XA,SA K ga gd e
 | .nil=>DH | .cons e r=>AM (sE hg e) (sA hg r)
theorem sF (hg:∀ g d,gd[g]?=some d->∀ F H,Dm K F H d (ga g)):∀ e:XA,SF K ga gd e
 | .nil=>Fo | .cons e r=>Aj (sE hg e) (sF hg r)
theorem sPs (hg:∀ g d,gd[g]?=some d->∀ F H,Dm K F H d (ga g)):∀ e:XP,SPs K ga gd e
 | .nil=>EY | .cons k e r=>Cj (sE hg k) (sE hg e) (sPs hg r)
theorem sT (hg:∀ g d,gd[g]?=some d->∀ F H,Dm K F H d (ga g)):∀ e:XT,ST K ga gd e
 | .tst e=>E6 (sE hg e) | .tru e=>Fz (sE hg e) | .and a b=>Es (sT hg a) (sT hg b) | .or a b=>HB (sT hg a) (sT hg b) | .not a=>D1 (sT hg a) | .yes=>F3
theorem sI (hg:∀ g d,gd[g]?=some d->∀ F H,Dm K F H d (ga g)):∀ e:XI,SI K ga gd e
 | .lst e=>yB (sE hg e) | .tup e=>BS (sE hg e) | .str e=>FC (sE hg e) | .rng1 as=>zQ (sA hg as) | .rng2 as=>Cs (sA hg as) | .dct e=>FJ (sE hg e) | .sq e=>HA (sE hg e) | .zip as=>Eb (sA hg as)
end
end
end L2
end
section
namespace L2
open PySem
section
variable {K:Fg} {F F' I I' F0:Addr->Prop} {H H' H₀ H1:Hp} {env env' e1:En} {σ σ':St} {ga:Nat->V} {gd:List PyData}
theorem LsF.aG {a:Addr} {xs:List V} (h:LsF K F H a xs):LsF K (fun b=>F b\/H b=none) H a xs:=by
 rcases h with ⟨n,h⟩ | h
 ·refine .inl ⟨fun z=>z.elim n fun e=>?_,h⟩;rcases h with h | ⟨o,h⟩ <;> (rw [e] at h;cases h)
 ·exact .inr h
mutual
theorem Dm.aG:∀ {d:PyData} {v:V},Dm K F H d v->Dm K (fun b=>F b\/H b=none) H d v
 | .none,v,h=>h
 | .bool b,v,h=>h
 | .int i,v,h=>h
 | .str x,v,h=>h
 | .list ds,v,h=>by
  obtain ⟨a,xs,e,l,z,r⟩:=h;exact ⟨a,xs,e,l.aG,z,DmL.aG r⟩
 | .tuple ds,v,h=>by
  obtain ⟨a,xs,e,l,z,r⟩:=h;exact ⟨a,xs,e,l,z,DmL.aG r⟩
 | .dict kvs,v,h=>by
  obtain ⟨a,ep,xs,e,n,l,z,r⟩:=h;exact ⟨a,ep,xs,e,fun q=>q.elim n fun q=>(by rw [q] at l;cases l),l,z,DmP.aG r⟩
theorem DmL.aG:∀ {ds:List PyData} {vs:List V},DmL K F H ds vs->DmL K (fun b=>F b\/H b=none) H ds vs
 | [],vs,h=>h
 | d :: ds,vs,h=>by
  obtain ⟨v,r,e,h1,h2⟩:=h;exact ⟨v,r,e,Dm.aG h1,DmL.aG h2⟩
theorem DmP.aG:∀ {ds:List (PyData×PyData)} {vs:List (PyData×V×V)},DmP K F H ds vs->DmP K (fun b=>F b\/H b=none) H ds vs
 | [],vs,h=>h
 | (k,d) :: ds,vs,h=>by
  obtain ⟨j,v,r,e,e2,h0,h1,h2⟩:=h;exact ⟨j,v,r,e,e2,Dm.aG h0,Dm.aG h1,DmP.aG h2⟩
end
theorem Top.aG {d:PyData} {a:Addr} (h:Top K F H d a):Top K (fun b=>F b\/H b=none) H d a:=by
 cases d with
 | list ds=>obtain ⟨xs,e,z,r⟩:=h;exact ⟨xs,e,z,r.aG⟩
 | dict ds=>obtain ⟨ep,xs,e,z,r⟩:=h;exact ⟨ep,xs,e,z,r.aG⟩
 | _=>exact absurd h id
theorem df.aG {d:PyData} {a:Addr} (h:df K F I H d a):df K (fun b=>F b\/H b=none) (fun b=>I b\/H b=none) H d a:=by
 cases d with
 | list ds=>obtain ⟨xs,e,z,r⟩:=h;exact ⟨xs,e.aG,z,r.aG⟩
 | dict ds =>
  obtain ⟨ep,xs,n,e,z,r⟩:=h;exact ⟨ep,xs,fun q=>q.elim n fun q=>(by rw [q] at e;cases e),e,z,r.aG⟩
 | _=>exact absurd h id
theorem Pr.GZ (p:Pr F H H') (h:∀ b,F b->F' b):Pr F' H H':=fun b o e n=>p b o e (n.imp (fun z q=>z (h _ q)) id)
noncomputable def Evs:Sl->Sl->Prop
 | .ino _,s=>∃ d,s=.ino d
 | .ro d,s=>s=.ro d
 | _,s=>(∀ d,s≠.ino d)/\∀ d,s≠.ro d
noncomputable def AU:Sl->Prop | .ino _=>True | .ro _=>True | _=>False
noncomputable def KpS (env:En) (σ:St) (env':En) (σ':St):Prop:=env'.length=env.length/\∀ (i:Nat) (s:Sl),env[i]?=some s->∃ s',env'[i]?=some s'/\Evs s s'/\(AU s->σ'[i]?=σ[i]?)
theorem Evs.refl:∀ s,Evs s s
 | .un=>⟨fun _=>nofun,fun _=>nofun⟩
 | .dat _=>⟨fun _=>nofun,fun _=>nofun⟩
 | .own d=>⟨fun _=>nofun,fun _=>nofun⟩
 | .ino d=>⟨d,rfl⟩
 | .ro _=>rfl
noncomputable def soft (s:Sl):Prop:=(∀ d,s≠.ino d)/\∀ d,s≠.ro d
theorem Evs.soft {s s':Sl} (h:Evs s s') (q:L2.soft s):L2.soft s':=by
 cases s with
 | ino d=>exact absurd rfl (q.1 d)
 | ro d=>exact absurd rfl (q.2 d)
 | _=>exact h
theorem Evs.of {s s':Sl} (q:L2.soft s) (q':L2.soft s'):Evs s s':=by
 cases s with
 | ino d=>exact absurd rfl (q.1 d)
 | ro d=>exact absurd rfl (q.2 d)
 | _=>exact q'
theorem Evs.trans {a b c:Sl} (h:Evs a b) (q:Evs b c):Evs a c:=by
 cases a with
 | ino d=>obtain ⟨d',rfl⟩:=h;exact q
 | ro d=>rw [show b=.ro d from h] at q;exact q
 | un=>exact Evs.of ⟨fun _=>nofun,fun _=>nofun⟩ (q.soft h)
 | dat _=>exact Evs.of ⟨fun _=>nofun,fun _=>nofun⟩ (q.soft h)
 | own _=>exact Evs.of ⟨fun _=>nofun,fun _=>nofun⟩ (q.soft h)
theorem Evs.AU {a b:Sl} (h:Evs a b) (q:L2.AU a):L2.AU b:=by
 cases a with
 | ino d=>obtain ⟨d',rfl⟩:=h;trivial
 | ro d=>rw [show b=.ro d from h];trivial
 | _=>exact absurd q id
theorem KpS.refl (env:En) (σ:St):KpS env σ env σ:=⟨rfl,fun i s e=>⟨s,e,.refl s,fun _=>rfl⟩⟩
theorem KpS.trans {a b c:En} {x y z:St} (h:KpS a x b y) (q:KpS b y c z):KpS a x c z:=⟨q.1.trans h.1,fun i s e=>by
 obtain ⟨s1,e1,v1,w1⟩:=h.2 i s e;obtain ⟨s2,e2,v2,w2⟩:=q.2 i s1 e1
 exact ⟨s2,e2,v1.trans v2,fun t=>(w2 (v1.AU t)).trans (w1 t)⟩⟩
theorem KpE.s (k:KpE env env'):KpS env σ env' σ:=⟨k.1,fun i s e=>by
 obtain ⟨s',e',v⟩:=k.2 i s e;refine ⟨s',e',?_,fun _=>rfl⟩;cases s with
 | un=>rw [show s'=.un from v];exact .refl _
 | dat d=>rw [show s'=.dat d from v];exact .refl _
 | own d=>rcases v with ⟨d',rfl⟩ | ⟨d',rfl⟩ | rfl <;> exact ⟨fun _=>nofun,fun _=>nofun⟩
 | ino d=>exact v
 | ro d=>exact v⟩
theorem fJ {i:Nat} (h:free env i=true):∃ s,env[i]?=some s/\L2.soft s:=by
 unfold free at h;split at h
 ·rename_i e;exact ⟨_,e,fun _=>nofun,fun _=>nofun⟩
 ·rename_i e;exact ⟨_,e,fun _=>nofun,fun _=>nofun⟩
 ·rename_i e;exact ⟨_,e,fun _=>nofun,fun _=>nofun⟩
 ·cases h
theorem rZ {i:Nat} {s s':Sl} {x:Option V} (e:env[i]?=some s) (q:L2.soft s) (q':L2.soft s'):KpS env σ (env.set i s') (σ.set i x):=by
 have hi:i < env.length:=(IK.mp e).1;refine ⟨JB,fun j t h=>?_⟩;by_cases z:i=j
 ·subst z;rw [e] at h;cases h;refine ⟨s',Je hi,.of q q',fun t=>?_⟩;cases s with
  | ino d=>exact absurd rfl (q.1 d)
  | ro d=>exact absurd rfl (q.2 d)
  | _=>exact absurd t id
 ·exact ⟨t,by rw [IL z];exact h,.refl t,fun _=>by rw [IL z]⟩
noncomputable def jC (K:Fg) (F0:Addr->Prop) (H₀:Hp) (I:Addr->Prop) (env:En) (σ:St) (D:Ends):Out->Prop
 | .nx e=>∀ σ' H',Rel K F0 H₀ I e σ' H'->KpS env σ e σ'->D.nx σ' H'
 | .bk e=>∀ σ' H',Rel K F0 H₀ I e σ' H'->KpS env σ e σ'->D.bk σ' H'
 | .ct e=>∀ σ' H',Rel K F0 H₀ I e σ' H'->KpS env σ e σ'->D.ct σ' H'
 | .rt rv e=>∀ v σ' H',Rel K F0 H₀ I e σ' H'->KpS env σ e σ'->cP K F0 H₀ I e σ' H' rv v->D.rt v H'
noncomputable def SS (K:Fg) (ga:Nat->V) (gd:List PyData) (s:XS):Prop:=∀ (env:En) (out:Out),dS gd s env=some out->∀ (F0:Addr->Prop) (H₀:Hp) (I:Addr->Prop) (σ:St) (H:Hp) (D:Ends),Rel K F0 H₀ I env σ H->jC K F0 H₀ I env σ D out->rS K ga s D σ H
theorem jC.from {D:Ends} {out:Out} (k:KpS env σ env' σ') (h:jC K F0 H₀ I env σ D out):jC K F0 H₀ I env' σ' D out:=by
 cases out with
 | nx e=>exact fun s h1 r q=>h s h1 r (k.trans q)
 | bk e=>exact fun s h1 r q=>h s h1 r (k.trans q)
 | ct e=>exact fun s h1 r q=>h s h1 r (k.trans q)
 | rt rv e=>exact fun v s h1 r q w=>h v s h1 r (k.trans q) w
theorem Bd {a b:XS} (ia:SS K ga gd a) (ib:SS K ga gd b):SS K ga gd (.seq a b):=by
 intro env out h F0 H₀ I σ H D R q;simp only [dS] at h;split at h
 ·rename_i e h1;refine ia _ _ h1 F0 H₀ I σ H _ R fun σ' H' R' k'=>?_;exact ib _ _ h F0 H₀ I σ' H' D R' (q.from k')
 ·rename_i hn;refine ia _ _ h F0 H₀ I σ H _ R ?_;cases out with
  | nx e=>exact absurd h (hn e)
  | bk e=>exact q
  | ct e=>exact q
  | rt rv e=>exact q
theorem Rel.Ea (R:Rel K F0 H₀ I env σ H) {i:Nat} {d:PyData} {v:V} (hf:free env i=true) (h:Dm K (FF F0 env σ) H d v):Rel K F0 H₀ I (env.set i (.dat d)) (σ.set i (some v)) H/\KpS env σ (env.set i (.dat d)) (σ.set i (some v)):=by
 obtain ⟨s,e,q⟩:=fJ hf;have hi:i < env.length:=(IK.mp e).1;have R1:=R.forget i (some v);have:=R1.putD (i:=i) (d:=d) (v:=v) (Je hi) (h.mono (R.sub i _).1);rw [Kr,Kr] at this;exact ⟨this,rZ e q ⟨fun _=>nofun,fun _=>nofun⟩⟩
theorem yj {i:Nat} {e:XE} (ie:SE K ga gd e):SS K ga gd (.dg i e):=by
 intro env out h F0 H₀ I σ H D R q;simp only [dS] at h;split at h
 ·rename_i rv e1 h1;split at h
  ·rename_i d hv;split at h
   ·rename_i hf;cases h;refine ie _ _ _ h1 F0 H₀ I σ H _ R fun v H1 R1 k1 r1=>?_;have a1:=r1.av;rw [hv] at a1;obtain ⟨R2,k2⟩:=R1.Ea hf (show Dm K _ H1 d v from a1);exact q _ H1 R2 (k1.s.trans k2)
   ·cases h
  ·cases h
 ·cases h
theorem cP.forget {d:PyData} {v:V} (h:cP K F0 H₀ I env σ H (.frs d) v) (i:Nat) (x:Option V) (hs:∀ s,env[i]?=some s->L2.soft s):cP K F0 H₀ I (env.set i .un) (σ.set i x) H (.frs d) v:=by
 obtain ⟨a,ea,R,t,w,nF,hi,hr⟩:=h;have R0:=R.less hi;obtain ⟨hf,hia⟩:=R0.sub i x;have hf':∀ b,(FF F0 (env.set i .un) (σ.set i x) b\/b=a)->(FF F0 env σ b\/b=a):=fun b z=>z.imp (hf b) id;refine ⟨a,ea,R.forget i x,t.pr Pr.refl hf' fun _ z=>z,w,fun z=>nF (hf _ z),fun j c e s=>?_,fun j c e=>?_⟩
 ·rcases get_set e with ⟨_,z⟩ | ⟨n,e⟩
  ·cases z
  ·rw [IL n] at s;exact hi j c e s
 ·rcases get_set e with ⟨_,z⟩ | ⟨n,e⟩
  ·cases z
  ·obtain ⟨b,s,r⟩:=hr j c e;exact ⟨b,by rw [IL n];exact s,r.pr Pr.refl hf' (fun b z=>z.imp (hia b) id) fun _ _ z _=>z⟩
theorem xn {i:Nat} {e:XE} (ie:SE K ga gd e):SS K ga gd (.lD i e):=by
 intro env out h F0 H₀ I σ H D R q;simp only [dS] at h;split at h
 ·rename_i d e1 h1;split at h
  ·rename_i hf;cases h;refine ie _ _ _ h1 F0 H₀ I σ H _ R fun v H1 R1 k1 r1=>?_;obtain ⟨s,e,qs⟩:=fJ hf;have hi:i < e1.length:=(IK.mp e).1;have ev:∃ a,v=.ref a:=let ⟨a,e,_⟩:=r1;⟨a,e⟩
   obtain ⟨a,rfl⟩:=ev;have r2:=r1.forget i (some (.ref a)) (fun s' h=>by rw [e] at h;cases h;exact qs);have R2:=Rel.Gp (i:=i) (Je hi) r2;rw [Kr,Kr] at R2;exact q _ H1 R2 (k1.s.trans (rZ e qs ⟨fun _=>nofun,fun _=>nofun⟩))
  ·cases h
 ·cases h
theorem kI:∀ {is:List Nat} {ds:List PyData} {vs:List V} {env env':En} {σ:St} {Q:St->Hp->Prop},dq env is ds=some env'->Rel K F0 H₀ I env σ H->DmL K (FF F0 env σ) H ds vs->(∀ σ',Rel K F0 H₀ I env' σ' H->KpS env σ env' σ'->Q σ' H)->gNs is vs σ H Q
 | [],[],vs,env,env',σ,Q,h,R,hd,q=>by
  cases h;exact ⟨hd,q σ R (KpS.refl _ _)⟩
 | [],d :: ds,vs,env,env',σ,Q,h,R,hd,q=>by cases h
 | i :: is,[],vs,env,env',σ,Q,h,R,hd,q=>by cases h
 | i :: is,d :: ds,vs,env,env',σ,Q,h,R,hd,q=>by
  unfold dq at h;split at h
  ·rename_i hf;obtain ⟨v,r,rfl,h1,h2⟩:=hd;obtain ⟨R1,k1⟩:=R.Ea hf h1;obtain ⟨s,e,qs⟩:=fJ hf;refine ⟨v,r,rfl,?_⟩;refine kI h R1 (h2.mono fun b z=>?_) fun σ' R' k'=>q σ' R' (k1.trans k');rcases z with z | ⟨j,c,e',s'⟩
   ·exact .inl z
   ·rcases get_set e' with ⟨_,y⟩ | ⟨n,e'⟩
    ·cases y
    ·rw [IL n] at s';exact .inr ⟨j,c,e',s'⟩
  ·cases h
theorem wZ {is:List Nat} {e:XE} (ie:SE K ga gd e):SS K ga gd (.B0 is e):=by
 intro env out h F0 H₀ I σ H D R q;simp only [dS] at h;split at h
 ·rename_i rv e1 h1;split at h
  ·rename_i ds hv;split at h
   ·rename_i e2 hset;cases h;refine ie _ _ _ h1 F0 H₀ I σ H _ R fun v H1 R1 k1 r1=>?_;have a1:=r1.av;rw [hv] at a1;obtain ⟨a,xs,rfl,l,z,r⟩:=(show Dm K (FF F0 e1 σ) H1 (.tuple ds) v from a1);have hlen:∀ {is:List Nat} {ds:List PyData} {e e':En},dq e is ds=some e'->is.length=ds.length:=by
     intro is;induction is with
     | nil=>intro ds e e' h;cases ds with
      | nil=>rfl
      | cons _ _=>cases h
     | cons i is ih=>intro ds e e' h;cases ds with
      | nil=>cases h
      | cons d ds =>
       unfold dq at h;split at h
       ·rw [Jf,Jf,ih h]
       ·cases h
    exact ⟨a,xs,rfl,l,by rw [r.len,hlen hset],kI hset R1 r fun σ' R' k'=>q σ' H1 R' (k1.s.trans k')⟩
   ·cases h
  ·cases h
 ·cases h
theorem xT {e:XE} (ie:SE K ga gd e):SS K ga gd (.drop e):=by
 intro env out h F0 H₀ I σ H D R q;simp only [dS] at h;split at h
 ·rename_i rv e1 h1;cases h;exact ie _ _ _ h1 F0 H₀ I σ H _ R fun v H1 R1 k1 r1=>q σ H1 R1 k1.s
 ·cases h
theorem Ab {e:XE} (ie:SE K ga gd e):SS K ga gd (.ret e):=by
 intro env out h F0 H₀ I σ H D R q;simp only [dS] at h;split at h
 ·rename_i rv e1 h1;cases h;exact ie _ _ _ h1 F0 H₀ I σ H _ R fun v H1 R1 k1 r1=>q v σ H1 R1 k1.s r1
 ·cases h
theorem Cw {c:XT} {a b:XS} (ic:ST K ga gd c) (ia:SS K ga gd a) (ib:SS K ga gd b):SS K ga gd (.ifs c a b):=by
 intro env out h F0 H₀ I σ H D R q;simp only [dS] at h;split at h
 ·rename_i e1 h1;refine ic _ _ _ h1 F0 H₀ I σ H _ R fun H1 R1 k1=>?_;rw [IV rfl];exact ia _ _ h F0 H₀ I σ H1 D R1 (q.from k1.s)
 ·rename_i e1 h1;refine ic _ _ _ h1 F0 H₀ I σ H _ R fun H1 R1 k1=>?_;rw [IU (by decide)];exact ib _ _ h F0 H₀ I σ H1 D R1 (q.from k1.s)
 ·cases h
theorem zZ {m:uq} {i:Nat} {k e:XE} (ik:SE K ga gd k) (ie:SE K ga gd e):SS K ga gd (.sto m i k e):=by
 intro env out h F0 H₀ I σ H D R q;simp only [dS] at h;split at h
 ·rename_i rv e1 h1;split at h
  ·rename_i x hv;split at h
   ·rename_i d0 hm0;split at h
    ·rename_i rk e2 h2;split at h
     ·rename_i dk d hvk hm;split at h
      ·rename_i d' hf;cases h;refine ie _ _ _ h1 F0 H₀ I σ H _ R fun v H1 R1 k1 r1=>?_;obtain ⟨_,a,s,_⟩:=R1.bW hm0;refine ⟨.ref a,s,?_⟩;refine ik _ _ _ h2 F0 _ _ σ H1 _ R1.rebase fun u H2 S2 k2 r2=>?_;have R2:=R1.aK S2;have a1:=r1.av;rw [hv] at a1;have dx:=R1.mF S2 k2 (show Dm K _ H1 x v from a1);obtain ⟨m2,a',s',f2,t2⟩:=R2.bW hm;rw [s] at s';cases s';refine m.ok K _ H2 d a dk x u v d' _ hf f2 t2 (r2.av.vw R2 hvk) dx fun H3 hk ht=>?_;exact q σ H3 (R2.GX hm s hk ht) ((k1.trans k2).trans (pG _ _ _)).s
      ·cases h
     ·cases h
    ·cases h
   ·cases h
  ·cases h
 ·cases h
theorem F8 {n:Nat} {c:XT} {b:XS} (ic:ST K ga gd c) (ib:SS K ga gd b):SS K ga gd (.wh n c b):=by
 intro env out h F0 H₀ I σ H D R q;simp only [dS] at h;refine ⟨fun m σ' H'=>∃ env',whL (dT gd c) (dS gd b) m env'=some out/\Rel K F0 H₀ I env' σ' H'/\KpS env σ env' σ',⟨n,env,h,R,KpS.refl _ _⟩,?_⟩;rintro m σ' H' ⟨env',hw,R',k'⟩;cases m with
 | zero=>cases hw
 | succ m =>
  unfold whL at hw;split at hw
  ·rename_i e1 h1;refine ic _ _ _ h1 F0 H₀ I σ' H' _ R' fun H2 R2 k2=>?_;rw [IV rfl];refine ⟨fun σ3 H3=>∃ env3,whL (dT gd c) (dS gd b) m env3=some out/\Rel K F0 H₀ I env3 σ3 H3/\KpS env σ env3 σ3,fun σ3 H3 z=>⟨m,Kt _,z⟩,?_⟩;split at hw
   ·rename_i e hb;exact ib _ _ hb F0 H₀ I σ' H2 _ R2 fun σ3 H3 R3 k3=>⟨e,hw,R3,(k'.trans k2.s).trans k3⟩
   ·rename_i e hb;exact ib _ _ hb F0 H₀ I σ' H2 _ R2 fun σ3 H3 R3 k3=>⟨e,hw,R3,(k'.trans k2.s).trans k3⟩
   ·rename_i e hb;cases hw;exact ib _ _ hb F0 H₀ I σ' H2 _ R2 fun σ3 H3 R3 k3=>q σ3 H3 R3 ((k'.trans k2.s).trans k3)
   ·rename_i r e hb;cases hw;exact ib _ _ hb F0 H₀ I σ' H2 _ R2 fun v σ3 H3 R3 k3 r3=>q v σ3 H3 R3 ((k'.trans k2.s).trans k3) r3
   ·cases hw
  ·rename_i e1 h1;cases hw;refine ic _ _ _ h1 F0 H₀ I σ' H' _ R' fun H2 R2 k2=>?_;rw [IU (by decide)];exact q σ' H2 R2 (k'.trans k2.s)
  ·cases hw
end
end L2
end
section
namespace L2
open PySem
section
variable {K:Fg} {F F' I I' F0:Addr->Prop} {H H' H₀ H1:Hp} {env env' e1:En} {σ σ':St} {ga:Nat->V} {gd:List PyData}
theorem Rel.Dz (R:Rel K F0 H₀ I env σ H) (h:∀ b,I b->I' b):Rel K F0 H₀ I' env σ H :=
 ⟨R.len,R.dat,fun i d e=>let ⟨a,s,n,w,t⟩:=R.own i d e;⟨a,s,n,w.imp id (h _),t⟩,fun i d e=>let ⟨a,s,n,w,t⟩:=R.ino i d e;⟨a,s,n,h _ w,t⟩,R.ro,R.sep,R.dom,fun b o e n=>R.b8 b o e fun z=>n (h _ z)⟩
theorem Rel.eqF {F1:Addr->Prop} (R:Rel K F0 H₀ I env σ H) (h:∀ b,F0 b↔F1 b):Rel K F1 H₀ I env σ H:=by
 have:F0=F1:=funext fun b=>propext (h b);exact this▸R
theorem Rel.El (R:Rel K F0 H₀ I env σ H) {i:Nat} {d:PyData} {a:Addr} (hu:env[i]?=some .un) (s:σ[i]?=some (some (.ref a))) (h:df K (FF F0 env σ) (IA env σ) H d a):Rel K F0 H₀ I (env.set i (.ro d)) σ H:=by
 have hi:i < env.length:=(IK.mp hu).1;have eF:FF F0 (env.set i (.ro d)) σ=FF F0 env σ:=by
  have:=hV (F0:=F0) (σ:=σ) (s:=.ro d) (x:=some (.ref a)) hu (fun _=>nofun)
  rwa [set_same s] at this
 have eI:IA (env.set i (.ro d)) σ=IA env σ:=by
  have:=se (σ:=σ) (s:=.ro d) (x:=some (.ref a)) hu (fun _=>⟨nofun,nofun⟩)
  rwa [set_same s] at this
 have mm:∀ j,mu (env.set i (.ro d)) j->mu env j:=fun j h=>by
  obtain ⟨c,e | e⟩:=h
  ·rcases get_set e with ⟨_,z⟩ | ⟨n,e⟩
   ·cases z
   ·exact ⟨c,.inl e⟩
  ·rcases get_set e with ⟨_,z⟩ | ⟨n,e⟩
   ·cases z
   ·exact ⟨c,.inr e⟩
 refine ⟨by rw [JB];exact R.len,fun j c e=>?_,fun j c e=>?_,fun j c e=>?_,fun j c e=>?_,fun j k b h1 h2 h3 h4=>R.sep j k b (mm j h1) (mm k h2) h3 h4,R.dom,R.b8⟩
 ·rw [eF];rcases get_set e with ⟨_,z⟩ | ⟨n,e⟩
  ·cases z
  exact R.dat j c e
 ·rw [eF];rcases get_set e with ⟨_,z⟩ | ⟨n,e⟩
  ·cases z
  exact R.own j c e
 ·rw [eF];rcases get_set e with ⟨_,z⟩ | ⟨n,e⟩
  ·cases z
  exact R.ino j c e
 ·rw [eF,eI];rcases get_set e with ⟨z,y⟩ | ⟨n,e⟩
  ·subst z;cases y;exact ⟨a,s,h⟩
  exact R.ro j c e
theorem Rel.HV (R:Rel K F0 H₀ I env σ H) {i:Nat} {d:PyData} {a:Addr} (hu:env[i]?=some .un) (s:σ[i]?=some (some (.ref a))) (h:Top K (FF F0 env σ) H d a) (hF:F0 a) (hI:I a) (na:∀ j,mu env j->σ[j]?≠some (some (.ref a)))
  (hro:∀ (j:Nat) (c:PyData),env[j]?=some (.ro c)->∃ b,σ[j]?=some (some (.ref b))/\df K (FF F0 env σ) (fun b=>IA env σ b\/b=a) H c b):Rel K F0 H₀ I (env.set i (.ino d)) σ H:=by
 have hi:i < env.length:=(IK.mp hu).1;have eF:FF F0 (env.set i (.ino d)) σ=FF F0 env σ:=by
  have:=hV (F0:=F0) (σ:=σ) (s:=.ino d) (x:=some (.ref a)) hu (fun _=>nofun)
  rwa [set_same s] at this
 have mm:∀ j,mu (env.set i (.ino d)) j->i=j\/(mu env j/\i≠j):=fun j h=>by
  obtain ⟨c,e | e⟩:=h
  ·rcases get_set e with ⟨z,_⟩ | ⟨n,e⟩
   ·exact .inl z
   ·exact .inr ⟨⟨c,.inl e⟩,n⟩
  ·rcases get_set e with ⟨z,_⟩ | ⟨n,e⟩
   ·exact .inl z
   ·exact .inr ⟨⟨c,.inr e⟩,n⟩
 have eI:∀ b,IA (env.set i (.ino d)) σ b->IA env σ b\/b=a:=by
  rintro b ⟨j,m,q⟩;rcases mm j m with z | ⟨m',n⟩
  ·subst z;rw [s] at q;cases q;exact .inr rfl
  ·exact .inl ⟨j,m',q⟩
 refine ⟨by rw [JB];exact R.len,fun j c e=>?_,fun j c e=>?_,fun j c e=>?_,fun j c e=>?_,fun j k b h1 h2 h3 h4=>?_,R.dom,R.b8⟩
 ·rw [eF];rcases get_set e with ⟨_,z⟩ | ⟨n,e⟩
  ·cases z
  exact R.dat j c e
 ·rw [eF];rcases get_set e with ⟨_,z⟩ | ⟨n,e⟩
  ·cases z
  exact R.own j c e
 ·rw [eF];rcases get_set e with ⟨z,y⟩ | ⟨n,e⟩
  ·subst z;cases y;exact ⟨a,s,hF,hI,h⟩
  exact R.ino j c e
 ·rw [eF];rcases get_set e with ⟨_,z⟩ | ⟨n,e⟩
  ·cases z
  obtain ⟨b,q,r⟩:=hro j c e;exact ⟨b,q,r.pr Pr.refl (fun _ z=>z) eI fun _ _ z _=>z⟩
 ·rcases mm j h1 with z1 | ⟨m1,n1⟩
  ·rcases mm k h2 with z2 | ⟨m2,n2⟩
   ·rw [<- z1,<-z2]
   ·rw [<- z1,s] at h3;cases h3;exact absurd h4 (na k m2)
  ·rcases mm k h2 with z2 | ⟨m2,n2⟩
   ·rw [<- z2,s] at h4;cases h4;exact absurd h3 (na j m1)
   ·exact R.sep j k b m1 m2 h3 h4
structure Lk (K:Fg) (F0:Addr->Prop) (H₀:Hp) (I:Addr->Prop) (e1:En) (σ:St) (H1:Hp) (lock:Option Nat) (F1:Addr->Prop):Prop where
 rel:Rel K F1 H₀ I (aX e1 lock) σ H1
 ff:FF F1 (aX e1 lock) σ=FF F0 e1 σ
 ia:∀ b,IA (aX e1 lock) σ b->IA e1 σ b/\∀ i,lock=some i->mu e1 i->σ[i]?≠some (some (.ref b))
 un:∀ env' σ' H',Rel K F1 H1 (IA (aX e1 lock) σ) env' σ' H'->KpS (aX e1 lock) σ env' σ'->Rel K F0 H₀ I (ak e1 lock env') σ' H'/\KpS e1 σ (ak e1 lock env') σ'/\FF F0 (ak e1 lock env') σ'=FF F1 env' σ'
theorem Lk.sU (R:Rel K F0 H₀ I e1 σ H1) {lock:Option Nat} (h1:aX e1 lock=e1) (h2:∀ env',ak e1 lock env'=env') (h3:∀ i,lock=some i->¬mu e1 i):Lk K F0 H₀ I e1 σ H1 lock F0 :=
 ⟨by rw [h1];exact R,by rw [h1],fun b hb=>by rw [h1] at hb;exact ⟨hb,fun i hi m=>absurd m (h3 i hi)⟩,fun env' σ' H' S k=>by rw [h1] at S k;rw [h2];exact ⟨R.aK S,k,rfl⟩⟩
theorem Lk.Ac (R:Rel K F0 H₀ I e1 σ H1) {i:Nat} {d:PyData} {a:Addr} (e:e1[i]?=some (.own d)\/e1[i]?=some (.ino d)) (s:σ[i]?=some (some (.ref a))):Lk K F0 H₀ I e1 σ H1 (some i) (fun b=>F0 b\/b=a):=by
 have hi:i < e1.length:=by rcases e with e | e <;> exact (IK.mp e).1
 have mi:mu e1 i:=⟨d,e⟩;have el:aX e1 (some i)=e1.set i (.ro d):=by simp only [aX];rcases e with e | e <;> rw [e]
 have hm:az e1 i=some d:=by unfold az;rcases e with e | e <;> rw [e]
 obtain ⟨_,a',s',fa,ta⟩:=R.bW hm;rw [s] at s';cases s';have hu:(e1.set i .un)[i]?=some .un:=Je hi;have mmu:∀ j,mu (e1.set i .un) j->mu e1 j/\i≠j:=fun j h=>by
  obtain ⟨c,e | e⟩:=h
  ·rcases get_set e with ⟨_,z⟩ | ⟨n,e⟩
   ·cases z
   ·exact ⟨⟨c,.inl e⟩,n⟩
  ·rcases get_set e with ⟨_,z⟩ | ⟨n,e⟩
   ·cases z
   ·exact ⟨⟨c,.inr e⟩,n⟩
 have nIA:¬IA (e1.set i .un) σ a:=fun ⟨j,m,q⟩=>(mmu j m).2 (R.sep i j a mi (mmu j m).1 s q);have eFu:FF (fun b=>F0 b\/b=a) (e1.set i .un) σ=FF F0 e1 σ:=by
  funext b;apply propext;constructor
  ·rintro ((h | h) | ⟨j,c,e',q⟩)
   ·exact .inl h
   ·exact h▸fa
   ·rcases get_set e' with ⟨_,z⟩ | ⟨n,e'⟩
    ·cases z
    ·exact .inr ⟨j,c,e',q⟩
  ·rintro (h | ⟨j,c,e',q⟩)
   ·exact .inl (.inl h)
   ·by_cases n:i=j
    ·subst n;rw [s] at q;cases q;exact .inl (.inr rfl)
    ·exact .inr ⟨j,c,by rw [IL n];exact e',q⟩
 have Ru:Rel K (fun b=>F0 b\/b=a) H₀ I (e1.set i .un) σ H1:=by
  rcases e with e | e
  ·obtain ⟨a2,s2,r⟩:=R.take e;rw [s] at s2;cases s2;obtain ⟨a3,ea,R',_⟩:=r;cases ea;exact R'
  ·have:=R.forget i (some (.ref a));rw [set_same s] at this;obtain ⟨a2,s2,f2,_⟩:=R.ino i d e;rw [s] at s2;cases s2;exact this.eqF fun b=>⟨.inl,fun z=>z.elim id fun z=>z▸f2⟩
 have Rl:Rel K (fun b=>F0 b\/b=a) H₀ I (e1.set i (.ro d)) σ H1:=by
  have:=Ru.El (d:=d) hu s (by rw [eFu];exact ta.ro nIA)
  rwa [Kr] at this
 have eFl:FF (fun b=>F0 b\/b=a) (e1.set i (.ro d)) σ=FF F0 e1 σ:=by
  rw [<- eFu];have:=hV (F0:=fun b=>F0 b\/b=a) (σ:=σ) (s:=.ro d) (x:=some (.ref a)) hu (fun _=>nofun)
  rwa [set_same s,Kr] at this
 have eIl:IA (e1.set i (.ro d)) σ=IA (e1.set i .un) σ:=by
  have:=se (σ:=σ) (s:=.ro d) (x:=some (.ref a)) hu (fun _=>⟨nofun,nofun⟩)
  rwa [set_same s,Kr] at this
 have iaSub:∀ b,IA (e1.set i (.ro d)) σ b->IA e1 σ b:=fun b hb=>by rw [eIl] at hb;obtain ⟨j,m,q⟩:=hb;exact ⟨j,(mmu j m).1,q⟩
 refine ⟨by rw [el];exact Rl,by rw [el];exact eFl,fun b hb=>?_,fun env' σ' H' S k=>?_⟩
 ·rw [el,eIl] at hb;obtain ⟨j,m,q⟩:=hb;refine ⟨⟨j,(mmu j m).1,q⟩,fun i' hi' mi' si'=>?_⟩;cases hi';exact (mmu j m).2 (R.sep i j b mi (mmu j m).1 si' q)
 ·rw [el] at S k;have hro:(e1.set i (.ro d))[i]?=some (.ro d):=Je hi;obtain ⟨si,he,hv,hs⟩:=k.2 i _ hro;have hv:si=.ro d:=hv;subst hv;have hs:=(hs trivial).trans s;have hi':i < env'.length:=(IK.mp he).1;have na1:¬IA (e1.set i (.ro d)) σ a:=by rw [eIl];exact nIA
  have keepA:∀ o,H1 a=some o->H' a=some o:=fun o z=>S.b8 a o z na1;have fSub:∀ b,FF (fun b=>F0 b\/b=a) env' σ' b->(FF F0 e1 σ b\/H1 b=none):=fun b z=>by
   rcases z with (z | z) | ⟨j,c,e',q⟩
   ·exact .inl (.inl z)
   ·exact .inl (z▸fa)
   ·obtain ⟨b',q',_,w,_⟩:=S.own j c e';rw [q] at q';cases q';rcases w with w | w
    ·exact .inr w
    ·exact .inl (R.ia (iaSub b w))
  have pF:Pr (fun b=>FF F0 e1 σ b\/H1 b=none) H1 H':=(R.mR fun b o z n=>S.b8 b o z fun y=>n (iaSub b y)).GZ fun b z=>.inl z;have tA:Top K (FF (fun b=>F0 b\/b=a) env' σ') H' d a:=ta.aG.pr pF fSub keepA;have iaEnd:∀ b,IA env' σ' b->(IA e1 σ b\/H1 b=none):=fun b z=>by
   rcases S.iaI z with w | w
   ·exact .inr w
   ·exact .inl (iaSub b w)
  have roOld:∀ (j:Nat) (c:PyData),env'[j]?=some (.ro c)->i≠j->∃ b,σ'[j]?=some (some (.ref b))/\df K (FF (fun b=>F0 b\/b=a) env' σ') (fun b=>IA env' σ' b\/b=a) H' c b:=fun j c e' n=>by
   have hj:j < e1.length:=by
    have:=(IK.mp e').1;rw [k.1,JB] at this;exact this
   have e0:(e1.set i (.ro d))[j]?=some e1[j]:=by rw [IL n];exact IG hj
   obtain ⟨s',h',v',w'⟩:=k.2 j _ e0;rw [e'] at h';cases h';have es:e1[j]=.ro c:=by
    cases hh:e1[j] with
    | ino _=>rw [hh] at v';obtain ⟨_,z⟩:=v';cases z
    | ro c'=>rw [hh] at v';have:Sl.ro c=.ro c':=v';rw [this]
    | un=>rw [hh] at v';exact absurd rfl (v'.2 c)
    | dat _=>rw [hh] at v';exact absurd rfl (v'.2 c)
    | own _=>rw [hh] at v';exact absurd rfl (v'.2 c)
   have er:e1[j]?=some (.ro c):=by rw [IG hj,es]
   obtain ⟨b,q,r⟩:=R.ro j c er;rw [es] at w';refine ⟨b,(w' trivial).trans q,r.aG.pr pF fSub (fun b z=>?_) fun b o z n=>S.b8 b o z fun y=>n (.inl (iaSub b y))⟩;rcases z with z | z
   ·exact iaEnd b z
   ·exact .inl (z▸⟨i,mi,s⟩)
  have inoNe:∀ (j:Nat) (c:PyData),env'[j]?=some (.ino c)->σ'[j]?≠some (some (.ref a)):=fun j c e' q=>by
   have n:i≠j:=fun z=>by subst z;rw [he] at e';cases e'
   have hj:j < e1.length:=by
    have:=(IK.mp e').1;rw [k.1,JB] at this;exact this
   have e0:(e1.set i (.ro d))[j]?=some e1[j]:=by rw [IL n];exact IG hj
   obtain ⟨s',h',v',w'⟩:=k.2 j _ e0;rw [e'] at h';cases h';have es:∃ c',e1[j]=.ino c':=by
    cases hh:e1[j] with
    | ino c'=>exact ⟨c',rfl⟩
    | ro c'=>rw [hh] at v';cases v'
    | un=>rw [hh] at v';exact absurd rfl (v'.1 c)
    | dat _=>rw [hh] at v';exact absurd rfl (v'.1 c)
    | own _=>rw [hh] at v';exact absurd rfl (v'.1 c)
   obtain ⟨c',es⟩:=es;have er:e1[j]?=some (.ino c'):=by rw [IG hj,es]
   rw [es] at w';rw [w' trivial] at q;exact n (R.sep i j a mi ⟨c',.inr er⟩ s q)
  have Sf:Rel K (fun b=>F0 b\/b=a) H1 (IA e1 σ) (env'.set i .un) σ' H':=by
   have:=S.forget i (some (.ref a));rw [set_same hs] at this;exact this.Dz iaSub
  have hu':(env'.set i .un)[i]?=some .un:=Je hi';have eFe:FF (fun b=>F0 b\/b=a) (env'.set i .un) σ'=FF (fun b=>F0 b\/b=a) env' σ':=by
   funext b;apply propext;constructor
   ·rintro (h | ⟨j,c,e',q⟩)
    ·exact .inl h
    ·rcases get_set e' with ⟨_,z⟩ | ⟨n,e'⟩
     ·cases z
     ·exact .inr ⟨j,c,e',q⟩
   ·rintro (h | ⟨j,c,e',q⟩)
    ·exact .inl h
    ·have n:i≠j:=fun z=>by subst z;rw [he] at e';cases e'
     exact .inr ⟨j,c,by rw [IL n];exact e',q⟩
  have iaE:∀ b,IA (env'.set i .un) σ' b->IA env' σ' b:=by
   rintro b ⟨j,⟨c,m⟩,q⟩;refine ⟨j,⟨c,?_⟩,q⟩;rcases m with m | m
   ·rcases get_set m with ⟨_,z⟩ | ⟨n,m⟩
    ·cases z
    ·exact .inl m
   ·rcases get_set m with ⟨_,z⟩ | ⟨n,m⟩
    ·cases z
    ·exact .inr m
  have kEnd:∀ t:Sl,Evs (e1[i]) t->KpS e1 σ (env'.set i t) σ':=fun t ht=>by
   refine ⟨by rw [JB,k.1,JB],fun j s0 e0=>?_⟩;by_cases z:i=j
   ·subst z;rw [IG hi] at e0;cases e0;exact ⟨t,Je hi',ht,fun _=>hs.trans s.symm⟩
   ·obtain ⟨s',h',v',w'⟩:=k.2 j s0 (by rw [IL z];exact e0);exact ⟨s',by rw [IL z];exact h',v',w'⟩
  rcases e with e | e
  ·have eu:ak e1 (some i) env'=env'.set i (.own d):=by simp only [ak];rw [e,he]
   obtain ⟨a2,s2,nF,_⟩:=R.own i d e;rw [s] at s2;cases s2;have nFF:¬FF F0 (env'.set i .un) σ' a:=by
    rintro (h | ⟨j,c,e',q⟩)
    ·exact nF h
    ·obtain ⟨b',q',n',_⟩:=Sf.own j c e';rw [q] at q';cases q';exact n' (.inr rfl)
   have rv:cP K F0 H1 (IA e1 σ) (env'.set i .un) σ' H' (.frs d) (.ref a):=by
    refine ⟨a,rfl,Sf,?_,.inr ⟨i,mi,s⟩,nFF,fun j c e' q=>?_,fun j c e'=>?_⟩
    ·rw [<- dO,eFe];exact tA
    ·rcases get_set e' with ⟨_,z⟩ | ⟨n,e'⟩
     ·cases z
     ·exact inoNe j c e' q
    ·rcases get_set e' with ⟨_,z⟩ | ⟨n,e'⟩
     ·cases z
     ·obtain ⟨b,q,r⟩:=roOld j c e' n;refine ⟨b,q,?_⟩;rw [<- dO,eFe];exact r.pr Pr.refl (fun _ z=>z) (fun b z=>z.imp (iaE b) id) fun _ _ z _=>z
   have Rn:=Rel.Gp hu' rv;rw [Kr,set_same hs] at Rn;rw [eu];refine ⟨R.aK Rn,kEnd _ ?_,?_⟩
   ·have:e1[i]=.own d:=by have:=IG hi;rw [e] at this;exact (JQ this).symm
    rw [this];exact ⟨fun _=>nofun,fun _=>nofun⟩
   ·rw [<- eFe,dO];funext b;apply propext;constructor
    ·rintro (h | ⟨j,c,e',q⟩)
     ·exact .inl (.inl h)
     ·rcases get_set e' with ⟨z,_⟩ | ⟨n,e'⟩
      ·subst z;rw [hs] at q;cases q;exact .inr rfl
      ·exact .inl (.inr ⟨j,c,by rw [IL n];exact e',q⟩)
    ·rintro ((h | ⟨j,c,e',q⟩) | rfl)
     ·exact .inl h
     ·rcases get_set e' with ⟨_,z⟩ | ⟨n,e'⟩
      ·cases z
      ·exact .inr ⟨j,c,by rw [IL n];exact e',q⟩
     ·exact .inr ⟨i,d,Je hi',hs⟩
  ·have eu:ak e1 (some i) env'=env'.set i (.ino d):=by simp only [ak];rw [e,he]
   obtain ⟨a2,s2,f2,i2,_⟩:=R.ino i d e;rw [s] at s2;cases s2;have Sf2:Rel K F0 H1 (IA e1 σ) (env'.set i .un) σ' H':=Sf.eqF fun b=>⟨fun z=>z.elim id fun z=>z▸f2,.inl⟩;have eF0:FF F0 (env'.set i .un) σ'=FF (fun b=>F0 b\/b=a) env' σ':=by
    rw [<- eFe];have:(fun b=>F0 b\/b=a)=F0:=funext fun b=>propext ⟨fun z=>z.elim id fun z=>z▸f2,.inl⟩;rw [this]
   have Rn:=Sf2.HV (d:=d) hu' hs (by rw [eF0];exact tA) f2 ⟨i,mi,s⟩ (fun j m q=>?_) (fun j c e'=>?_)
   ·rw [Kr] at Rn;rw [eu];refine ⟨R.aK Rn,kEnd _ ?_,?_⟩
    ·have:e1[i]=.ino d:=by have:=IG hi;rw [e] at this;exact (JQ this).symm
     rw [this];exact ⟨d,rfl⟩
    ·rw [<- eF0];have:=hV (F0:=F0) (σ:=σ') (s:=.ino d) (x:=some (.ref a)) hu' (fun _=>nofun)
     rwa [set_same hs,Kr] at this
   ·obtain ⟨c,m | m⟩:=m
    ·obtain ⟨b',q',n',_⟩:=Sf.own j c m;rw [q] at q';cases q';exact n' (.inr rfl)
    ·rcases get_set m with ⟨_,z⟩ | ⟨n,m⟩
     ·cases z
     ·exact inoNe j c m q
   ·rcases get_set e' with ⟨_,z⟩ | ⟨n,e'⟩
    ·cases z
    ·obtain ⟨b,q,r⟩:=roOld j c e' n;refine ⟨b,q,?_⟩;rw [eF0];exact r.pr Pr.refl (fun _ z=>z) (fun b z=>z.imp (iaE b) id) fun _ _ z _=>z
theorem Lk.of (R:Rel K F0 H₀ I e1 σ H1) (lock:Option Nat):∃ F1,Lk K F0 H₀ I e1 σ H1 lock F1/\(lkd e1 lock=false->F1=F0/\aX e1 lock=e1/\∀ env',ak e1 lock env'=env'):=by
 cases lock with
 | none=>exact ⟨F0,Lk.sU R rfl (fun _=>rfl) (fun i z=>by cases z),fun _=>⟨rfl,rfl,fun _=>rfl⟩⟩
 | some i =>
  cases e:e1[i]? with
  | none =>
   have h1:aX e1 (some i)=e1:=by simp only [aX];rw [e]
   have h2:∀ env',ak e1 (some i) env'=env':=fun env'=>by simp only [ak];rw [e]
   exact ⟨F0,Lk.sU R h1 h2 (fun j z m=>by cases z;obtain ⟨d,m | m⟩:=m <;> (rw [e] at m;cases m)),fun _=>⟨rfl,h1,h2⟩⟩
  | some s =>
   cases s with
   | own d =>
    obtain ⟨a,q,_⟩:=R.own i d e;exact ⟨_,Lk.Ac R (.inl e) q,fun z=>by simp only [lkd] at z;rw [e] at z;cases z⟩
   | ino d =>
    obtain ⟨a,q,_⟩:=R.ino i d e;exact ⟨_,Lk.Ac R (.inr e) q,fun z=>by simp only [lkd] at z;rw [e] at z;cases z⟩
   | un =>
    have h1:aX e1 (some i)=e1:=by simp only [aX];rw [e]
    have h2:∀ env',ak e1 (some i) env'=env':=fun env'=>by simp only [ak];rw [e]
    exact ⟨F0,Lk.sU R h1 h2 (fun j z m=>by cases z;obtain ⟨d,m | m⟩:=m <;> (rw [e] at m;cases m)),fun _=>⟨rfl,h1,h2⟩⟩
   | dat d =>
    have h1:aX e1 (some i)=e1:=by simp only [aX];rw [e]
    have h2:∀ env',ak e1 (some i) env'=env':=fun env'=>by simp only [ak];rw [e]
    exact ⟨F0,Lk.sU R h1 h2 (fun j z m=>by cases z;obtain ⟨d,m | m⟩:=m <;> (rw [e] at m;cases m)),fun _=>⟨rfl,h1,h2⟩⟩
   | ro d =>
    have h1:aX e1 (some i)=e1:=by simp only [aX];rw [e]
    have h2:∀ env',ak e1 (some i) env'=env':=fun env'=>by simp only [ak];rw [e]
    exact ⟨F0,Lk.sU R h1 h2 (fun j z m=>by cases z;obtain ⟨d,m | m⟩:=m <;> (rw [e] at m;cases m)),fun _=>⟨rfl,h1,h2⟩⟩
theorem oJ {b:PyData->En->Option Out} {ds:List PyData} {out:Out} {J:It} {F1 I1:Addr->Prop} {el:En} {g:TG} {tb:TS} {D:Ends} (R:Rel K F1 H1 I1 el σ H1) (hI:I1=IA el σ) (hit:uh K (FF F1 el σ) I1 H1 J ds) (h:forL b ds el=some out)
  (turn:∀ d o env' σ' H' x,b d env'=some o->Rel K F1 H1 I1 env' σ' H'->KpS el σ env' σ'->Dm K (FF F1 env' σ') H' d x->∀ D':Ends,jC K F1 H1 I1 env' σ' D' o->g x σ' H' fun σ2 H2=>tb D' σ2 H2)
  (q:jC K F1 H1 I1 el σ D out) :
  ∃ W:Nat->Nat->St->Hp->Prop,(∃ m,W 0 m σ H1)/\∀ i m σ H,W i m σ H ->
   (J.stop i H/\D.nx σ H)\/(J.go i H/\∃ N:St->Hp->Prop,(∀ σ' H',N σ' H'->∃ m',m' < m/\W (i+1) m' σ' H')/\∀ x H',J.yld i H x H'->g x σ H' fun σ2 H2=>tb { D with nx:=N,ct:=N,bk:=D.nx } σ2 H2):=by
 subst hI;obtain ⟨hvl,hturn⟩:=hit;refine ⟨fun i m σ' H'=>m=ds.length - i/\i<=ds.length/\∃ env',forL b (ds.drop i) env'=some out/\Rel K F1 H1 (IA el σ) env' σ' H'/\KpS el σ env' σ',⟨ds.length,rfl,JZ _,el,h,R,KpS.refl _ _⟩,?_⟩;rintro i m σ' H' ⟨rfl,hi,env',hf,R',k'⟩;have hkept:∀ b o,H1 b=some o->¬IA el σ b->H' b=some o:=R'.b8;by_cases hlt:i < ds.length
 ·right;obtain ⟨go,yld⟩:=(hturn H' hkept i).1 (by omega);refine ⟨go,fun σ3 H3=>(ds.length - (i+1))=ds.length - (i+1)/\i+1<=ds.length/\∃ env',forL b (ds.drop (i+1)) env'=some out/\Rel K F1 H1 (IA el σ) env' σ3 H3/\KpS el σ env' σ3,fun σ3 H3 z=>⟨ds.length - (i+1),by omega,z⟩,fun x H'' hx=>?_⟩;obtain ⟨d,hd,hy9⟩:=yld x H'' hx;have fSub:∀ b,FF F1 env' σ' b->(FF F1 el σ b\/H1 b=none):=fun b z=>by
   rcases z with z | ⟨j,c,e',s'⟩
   ·exact .inl (.inl z)
   ·obtain ⟨b',q',_,w,_⟩:=R'.own j c e';rw [s'] at q';cases q';exact w.elim .inr fun w=>.inl (R.ia w)
  obtain ⟨sm,hdx'⟩:=hy9.dm (F2:=FF F1 env' σ') fun d v h=>h.aG.pr ((R.mR hkept).GZ fun b z=>.inl z) fSub;have R':=R'.same sm;have ed:ds.drop i=d :: ds.drop (i+1):=by
   rw [Kg hlt];obtain ⟨_,z⟩:=IK.mp hd;rw [z]
  rw [ed] at hf;unfold forL at hf;split at hf
  ·rename_i e hb;exact turn d _ env' σ' H'' x hb R' k' hdx' _ fun σ3 H3 R3 k3=>⟨rfl,by omega,e,hf,R3,k'.trans k3⟩
  ·rename_i e hb;exact turn d _ env' σ' H'' x hb R' k' hdx' _ fun σ3 H3 R3 k3=>⟨rfl,by omega,e,hf,R3,k'.trans k3⟩
  ·rename_i e hb;cases hf;exact turn d _ env' σ' H'' x hb R' k' hdx' _ fun σ3 H3 R3 k3=>q σ3 H3 R3 (k'.trans k3)
  ·rename_i r e hb;cases hf;exact turn d _ env' σ' H'' x hb R' k' hdx' _ fun v σ3 H3 R3 k3 r3=>q v σ3 H3 R3 (k'.trans k3) r3
  ·cases hf
 ·left;have e:i=ds.length:=by omega
  subst e;rw [List.drop_length] at hf;unfold forL at hf;cases hf;exact ⟨(hturn H' hkept _).2 (by omega),q σ' H' R' k'⟩
theorem cP.unl {rv:RV} {v:V} {F1:Addr->Prop} {e2:En} (h:cP K F1 H₀ I env σ H rv v) (hn:∀ d,rv≠.frs d) (eF:FF F0 e2 σ=FF F1 env σ) {H₁:Hp} {I₁:Addr->Prop}:cP K F0 H₁ I₁ e2 σ H rv v:=by
 cases rv with
 | dat d=>show Dm K _ H d v;rw [eF];exact h
 | bor i=>exact h
 | frs d=>exact absurd rfl (hn d)
theorem cP.Fw {rv:RV} {v:V} (h:cP K F0 H₀ I env σ H rv v):cP K F0 H₀ I env σ H (rv.soft true) v:=by
 cases rv with
 | dat d=>exact h
 | bor i=>exact h
 | frs d=>exact h.av
theorem cP.aK {rv:RV} {v:V} (R:Rel K F0 H₀ I env σ H) (h:cP K F0 H (IA env σ) env' σ' H' rv v):cP K F0 H₀ I env' σ' H' rv v:=by
 cases rv with
 | dat d=>exact h
 | bor i=>exact h
 | frs d =>
  obtain ⟨a,ea,S,t,w,nF,hi,hr⟩:=h;have S0:=R.aK (S.less hi);refine ⟨a,ea,⟨S.len,S.dat,fun i c e=>?_,fun i c e=>?_,S.ro,S.sep,S.dom,S0.b8⟩,t,R.oi w,nF,hi,hr⟩
  ·obtain ⟨b,s,n,w',t'⟩:=S.own i c e;exact ⟨b,s,n,R.oi w',t'⟩
  ·obtain ⟨b,s,n,w',t'⟩:=S.ino i c e;obtain ⟨b2,s2,_,i2,_⟩:=S0.ino i c e;rw [s] at s2;cases s2;exact ⟨b,s,n,i2,t'⟩
theorem Lk.out {lock:Option Nat} {F1:Addr->Prop} {D:Ends} {out:Out} (R1:Rel K F0 H₀ I e1 σ H1) (L:Lk K F0 H₀ I e1 σ H1 lock F1) (hno:lkd e1 lock=false->F1=F0/\aX e1 lock=e1/\∀ env',ak e1 lock env'=env')
  (q:jC K F0 H₀ I e1 σ D (out.map (lkd e1 lock) (ak e1 lock))):jC K F1 H1 (IA (aX e1 lock) σ) (aX e1 lock) σ D out:=by
 cases out with
 | nx e=>exact fun σ' H' R' k'=>let ⟨A,B,_⟩:=L.un e σ' H' R' k';q σ' H' A B
 | bk e=>exact fun σ' H' R' k'=>let ⟨A,B,_⟩:=L.un e σ' H' R' k';q σ' H' A B
 | ct e=>exact fun σ' H' R' k'=>let ⟨A,B,_⟩:=L.un e σ' H' R' k';q σ' H' A B
 | rt rv e =>
  intro v σ' H' R' k' r;obtain ⟨A,B,C⟩:=L.un e σ' H' R' k';refine q v σ' H' A B ?_;cases hl:lkd e1 lock with
  | true=>exact r.Fw.unl (fun d z=>by cases rv <;> cases z) C
  | false =>
   obtain ⟨rfl,h1,h2⟩:=hno hl;rw [h1] at r;rw [h2];have:rv.soft false=rv:=by cases rv <;> rfl
   rw [this];exact r.aK R1
theorem FA {i:Nat} {it:XI} {b:XS} (ii:SI K ga gd it) (ib:SS K ga gd b):SS K ga gd (.fr i it b):=by
 intro env out h F0 H₀ I σ H D R q;simp only [dS] at h;split at h
 ·rename_i ds lock e1 h1;cases ho:forL (iE i (dS gd b)) ds (aX e1 lock) with
  | none=>rw [ho] at h;cases h
  | some o =>
   rw [ho] at h;cases h;refine ii _ _ _ _ h1 F0 H₀ I σ H _ R fun J H1 R1 k1 _ hit=>?_;obtain ⟨F1,L,hno⟩:=Lk.of R1 lock;have Rb:=L.rel.rebase;refine oJ Rb rfl ?_ ho ?_ (L.out R1 hno (q.from k1.s))
   ·rw [L.ff];obtain ⟨a2,a3⟩:=hit;exact ⟨a2,fun H' hk=>a3 H' fun b o e n=>hk b o e fun z=>n (L.ia b z)⟩
   ·intro d o env' σ' H' x hb R' k' hd D' hD;unfold iE at hb;split at hb
    ·rename_i hf;obtain ⟨R2,k2⟩:=R'.Ea hf hd;exact ib _ _ hb _ _ _ _ H' D' R2 (hD.from k2)
    ·cases hb
 ·cases h
theorem zY {is:List Nat} {it:XI} {b:XS} (ii:SI K ga gd it) (ib:SS K ga gd b):SS K ga gd (.frT is it b):=by
 intro env out h F0 H₀ I σ H D R q;simp only [dS] at h;split at h
 ·rename_i ds lock e1 h1
  ·obtain ⟨o,ho,e0⟩:=Jd.mp h;subst e0;refine ii _ _ _ _ h1 F0 H₀ I σ H _ R fun J H1 R1 k1 _ hit=>?_;obtain ⟨F1,L,hno⟩:=Lk.of R1 lock;have Rb:=L.rel.rebase;refine oJ Rb rfl ?_ ho ?_ (L.out R1 hno (q.from k1.s))
   ·rw [L.ff];obtain ⟨a2,a3⟩:=hit;exact ⟨a2,fun H' hk=>a3 H' fun b o e n=>hk b o e fun z=>n (L.ia b z)⟩
   ·intro d o env' σ' H' x hb R' k' hd D' hD;unfold gr at hb;split at hb
    ·rename_i xs;split at hb
     ·rename_i e2 hset;obtain ⟨a,vs,rfl,l,z,r⟩:=hd;have hlen:∀ {is:List Nat} {ds:List PyData} {e e':En},dq e is ds=some e'->is.length=ds.length:=by
       intro is;induction is with
       | nil=>intro ds e e' h;cases ds with
        | nil=>rfl
        | cons _ _=>cases h
       | cons i is ih=>intro ds e e' h;cases ds with
        | nil=>cases h
        | cons d ds =>
         unfold dq at h;split at h
         ·rw [Jf,Jf,ih h]
         ·cases h
      exact ⟨a,vs,rfl,l,by rw [r.len,hlen hset],kI hset R' r fun σ2 R2 k2=>ib _ _ hb _ _ _ _ H' D' R2 (hD.from k2)⟩
     ·cases hb
    ·cases hb
 ·cases h
theorem sS (hg:∀ g d,gd[g]?=some d->∀ F H,Dm K F H d (ga g)):∀ s:XS,SS K ga gd s
 | .skip=>fun env out h F0 H₀ I σ H D R q=>by cases h;exact q σ H R (KpS.refl _ _)
 | .seq a b=>Bd (sS hg a) (sS hg b)
 | .dg i e=>yj (sE hg e) | .lD i e=>xn (sE hg e) | .B0 is e=>wZ (sE hg e) | .drop e=>xT (sE hg e) | .ret e=>Ab (sE hg e)
 | .CZ=>fun env out h F0 H₀ I σ H D R q=>by cases h;exact q .non σ H R (KpS.refl _ _) rfl
 | .ifs c a b=>Cw (sT hg c) (sS hg a) (sS hg b)
 | .fr i it b=>FA (sI hg it) (sS hg b) | .frT is it b=>zY (sI hg it) (sS hg b) | .wh n c b=>F8 (sT hg c) (sS hg b)
 | .brk=>fun env out h F0 H₀ I σ H D R q=>by cases h;exact q σ H R (KpS.refl _ _)
 | .cnt=>fun env out h F0 H₀ I σ H D R q=>by cases h;exact q σ H R (KpS.refl _ _)
 | .nev=>fun env out h F0 H₀ I σ H D R q=>by cases h
 | .sto m i k e=>zZ (sE hg k) (sE hg e)
end
end L2
end
section
namespace L2
open PySem
section
variable {K:Fg} {F F' G I I' F0:Addr->Prop} {H H' H₀ H1:Hp} {env env' e1:En} {σ σ':St} {ga:Nat->V} {gd:List PyData}
theorem bC:∀ {ms:List PM} {ds:List PyData} {n:Nat},ds.length=ms.length->ms.length<=n->(ah ms ds n).length=n
 | [],[],n,_,_=>by simp [ah]
 | [],_ :: _,n,h,_=>by cases h
 | _ :: _,[],n,h,_=>by cases h
 | m :: ms,d :: ds,n,h,hn=>by
  have ih:=bC (ms:=ms) (ds:=ds) (n:=n - 1) (by simpa using h) (by simp at hn;omega);simp at hn;cases m <;> (simp only [ah,Jf,ih];omega)
theorem a9.len:∀ {ms:List PM} {ds:List PyData} {vs:List V} {is:List Addr},a9 K G I H ms ds vs is->ds.length=ms.length/\vs.length=ms.length
 | [],[],[],_,_=>⟨rfl,rfl⟩
 | [],[],_ :: _,_,h=>by exact absurd h id
 | [],_ :: _,_,_,h=>by exact absurd h id
 | m :: ms,[],_,_,h=>by cases m <;> exact absurd h id
 | m :: ms,d :: ds,[],_,h=>by cases m <;> exact absurd h id
 | .dat :: ms,d :: ds,v :: vs,is,h=>by obtain ⟨a,b⟩:=a9.len h.2;exact ⟨by simp [a],by simp [b]⟩
 | .bor :: ms,d :: ds,v :: vs,is,h=>by obtain ⟨a,b⟩:=a9.len h.2;exact ⟨by simp [a],by simp [b]⟩
 | .ino :: ms,d :: ds,v :: vs,is,h=>by obtain ⟨_,_,_,_,_,_,_,h⟩:=h;obtain ⟨a,b⟩:=a9.len h;exact ⟨by simp [a],by simp [b]⟩
noncomputable def At (K:Fg) (G I:Addr->Prop) (H:Hp) (is:List Addr) (s:Sl) (x:Option V):Prop:=match s with
 | .un=>True
 | .dat d=>∃ v,x=some v/\Dm K G H d v
 | .ino d=>∃ a,x=some (.ref a)/\a∈is/\G a/\Top K G H d a
 | .ro d=>∃ a,x=some (.ref a)/\df K G I H d a
 | .own _=>False
theorem At.more {is is':List Addr} {s:Sl} {x:Option V} (h:At K G I H is s x) (q:∀ a∈is,a∈is'):At K G I H is' s x:=by
 cases s with
 | ino d=>obtain ⟨a,e,m,r⟩:=h;exact ⟨a,e,q a m,r⟩
 | _=>exact h
theorem bf:∀ {ms:List PM} {ds:List PyData} {vs:List V} {is:List Addr} {n:Nat} {tl:St},a9 K G I H ms ds vs is->∀ {i:Nat} {s:Sl},(ah ms ds n)[i]?=some s->∀ {x:Option V},(vs.map some++tl)[i]?=some x->At K G I H is s x
 | [],[],[],is,n,tl,h,i,s,e,x,_=>by
  simp only [ah,List.getElem?_replicate] at e;split at e
  ·cases e;trivial
  ·cases e
 | [],[],_ :: _,_,_,_,h,_,_,_,_,_=>by exact absurd h id
 | [],_ :: _,_,_,_,_,h,_,_,_,_,_=>by exact absurd h id
 | m :: ms,[],_,_,_,_,h,_,_,_,_,_=>by cases m <;> exact absurd h id
 | m :: ms,d :: ds,[],_,_,_,h,_,_,_,_,_=>by cases m <;> exact absurd h id
 | .dat :: ms,d :: ds,v :: vs,is,n,tl,h,0,s,e,x,ex=>by
  simp [ah] at e ex;subst e ex;exact ⟨v,rfl,h.1⟩
 | .dat :: ms,d :: ds,v :: vs,is,n,tl,h,i+1,s,e,x,ex=>by
  simp [ah] at e;exact bf h.2 e (by simpa using ex)
 | .bor :: ms,d :: ds,v :: vs,is,n,tl,h,0,s,e,x,ex=>by
  simp [ah] at e ex;subst e ex;have h1:yI K G I H d v:=h.1;cases d <;> first | exact h1 | exact ⟨v,rfl,h1⟩ | (obtain ⟨a,rfl,r⟩:=h1;exact ⟨a,rfl,r⟩)
 | .bor :: ms,d :: ds,v :: vs,is,n,tl,h,i+1,s,e,x,ex=>by
  simp [ah] at e;exact bf h.2 e (by simpa using ex)
 | .ino :: ms,d :: ds,v :: vs,is,n,tl,h,0,s,e,x,ex=>by
  simp [ah] at e ex;subst e ex;obtain ⟨a,r,rfl,rfl,g,t,_,_⟩:=h;exact ⟨a,rfl,IP,g,t⟩
 | .ino :: ms,d :: ds,v :: vs,is,n,tl,h,i+1,s,e,x,ex=>by
  simp [ah] at e;obtain ⟨a,r,rfl,rfl,g,t,_,h⟩:=h;exact (bf h e (by simpa using ex)).more fun b hb=>IZ _ hb
theorem iB:∀ {ms:List PM} {ds:List PyData} {vs:List V} {is:List Addr} {n:Nat} {tl:St},a9 K G I H ms ds vs is->∀ {i j:Nat} {c c':PyData} {a:Addr},(ah ms ds n)[i]?=some (.ino c)->(ah ms ds n)[j]?=some (.ino c') ->
  (vs.map some++tl)[i]?=some (some (.ref a))->(vs.map some++tl)[j]?=some (some (.ref a))->i=j
 | [],[],[],is,n,tl,h,i,j,c,c',a,e,_,_,_=>by
  simp only [ah,List.getElem?_replicate] at e;split at e <;> cases e
 | [],[],_ :: _,_,_,_,h,_,_,_,_,_,_,_,_,_=>by exact absurd h id
 | [],_ :: _,_,_,_,_,h,_,_,_,_,_,_,_,_,_=>by exact absurd h id
 | m :: ms,[],_,_,_,_,h,_,_,_,_,_,_,_,_,_=>by cases m <;> exact absurd h id
 | m :: ms,d :: ds,[],_,_,_,h,_,_,_,_,_,_,_,_,_=>by cases m <;> exact absurd h id
 | m :: ms,d :: ds,v :: vs,is,n,tl,h,0,0,c,c',a,e,e',s,s'=>rfl
 | m :: ms,d :: ds,v :: vs,is,n,tl,h,i+1,j+1,c,c',a,e,e',s,s'=>by
  have hr:∃ r,a9 K G I H ms ds vs r:=by
   cases m with
   | dat=>exact ⟨is,h.2⟩
   | bor=>exact ⟨is,h.2⟩
   | ino=>obtain ⟨_,r,_,_,_,_,_,h⟩:=h;exact ⟨r,h⟩
  obtain ⟨r,hr⟩:=hr;have:i=j:=iB (n:=n - 1) (tl:=tl) hr (by cases m <;> simpa [ah] using e) (by cases m <;> simpa [ah] using e') (by simpa using s) (by simpa using s');rw [this]
 | m :: ms,d :: ds,v :: vs,is,n,tl,h,0,j+1,c,c',a,e,e',s,s'=>by
  cases m with
  | dat=>simp [ah] at e
  | bor=>cases d <;> simp [ah,yW] at e
  | ino =>
   obtain ⟨b,r,rfl,rfl,g,t,nr,h⟩:=h;simp [ah] at e' s;subst s;obtain ⟨a',ea,m',_⟩:=bf (tl:=tl) h e' (by simpa using s');cases ea;exact absurd m' nr
 | m :: ms,d :: ds,v :: vs,is,n,tl,h,i+1,0,c,c',a,e,e',s,s'=>by
  cases m with
  | dat=>simp [ah] at e'
  | bor=>cases d <;> simp [ah,yW] at e'
  | ino =>
   obtain ⟨b,r,rfl,rfl,g,t,nr,h⟩:=h;simp [ah] at e s';subst s';obtain ⟨a',ea,m',_⟩:=bf (tl:=tl) h e (by simpa using s);cases ea;exact absurd m' nr
theorem dZ {G':Addr->Prop}:∀ {ms:List PM} {ds:List PyData} {vs:List V} {is:List Addr} {n:Nat} {tl:St} {env':En} {σ':St} {outs:List PyData},a9 K G I H ms ds vs is->ms.length<=env'.length ->
  (∀ (i:Nat) (c:PyData),(ah ms ds n)[i]?=some (.ino c)->∃ c',env'[i]?=some (.ino c')/\σ'[i]?=(vs.map some++tl)[i]?)->(∀ (i:Nat) (c:PyData) (a:Addr),env'[i]?=some (.ino c)->σ'[i]?=some (some (.ref a))->Top K G' H' c a) ->
  f6 ms env'=some outs->gi K G' H' outs is
 | [],[],[],is,n,tl,env',σ',outs,h,_,_,_,e=>by
  rw [show is=[] from h];cases env' <;> (simp only [f6] at e;cases e;trivial)
 | [],[],_ :: _,_,_,_,_,_,_,h,_,_,_,_=>by exact absurd h id
 | [],_ :: _,_,_,_,_,_,_,_,h,_,_,_,_=>by exact absurd h id
 | m :: ms,[],_,_,_,_,_,_,_,h,_,_,_,_=>by cases m <;> exact absurd h id
 | m :: ms,d :: ds,[],_,_,_,_,_,_,h,_,_,_,_=>by cases m <;> exact absurd h id
 | m :: ms,d :: ds,v :: vs,is,n,tl,[],σ',outs,h,hl,h1,h2,e=>by simp at hl
 | m :: ms,d :: ds,v :: vs,is,n,tl,s :: es,σ',outs,h,hl,h1,h2,e=>by
  have hl':ms.length<=es.length:=by simpa using hl
  have t1:∀ (i:Nat) (c:PyData),(ah ms ds (n - 1))[i]?=some (.ino c)->∃ c',es[i]?=some (.ino c')/\σ'.tail[i]?=(vs.map some++tl)[i]?:=fun i c z=>by
   obtain ⟨c',e',q⟩:=h1 (i+1) c (by cases m <;> simpa [ah] using z);exact ⟨c',by simpa using e',by simpa using q⟩
  have t2:∀ (i:Nat) (c:PyData) (a:Addr),es[i]?=some (.ino c)->σ'.tail[i]?=some (some (.ref a))->Top K G' H' c a:=fun i c a z q=>h2 (i+1) c a (by simpa using z) (by simpa using q);cases m with
  | dat=>exact dZ h.2 hl' t1 t2 (by simpa [f6] using e)
  | bor=>exact dZ h.2 hl' t1 t2 (by simpa [f6] using e)
  | ino =>
   obtain ⟨b,r,rfl,rfl,g,t,nr,h⟩:=h;obtain ⟨c',e',q⟩:=h1 0 d (by simp [ah]);simp at e' q;subst e';simp only [f6] at e;split at e
   ·rename_i os ho;cases e;exact ⟨h2 0 c' b (by simp) (by simpa using q),dZ h hl' t1 t2 ho⟩
   ·cases e
theorem xF (hg:∀ g d,gd[g]?=some d->∀ F H,Dm K F H d (ga g)) {ms:List PM} {N:List Str} {b:XS} {vs:List V} {H:Hp} {Q:VK} {E:XK} (h:bH (b7 gd ms N.length b) K vs H Q E) (hn:ms.length<=N.length) :
  rS K ga b { nx:=fun _ H'=>Q .non H',rt:=Q } (start N vs) H:=by
 obtain ⟨G,ds,is,pr,outs,hF,ha,hd,post⟩:=h;have ha:a9 K G (·∈is) H ms ds vs is:=ha;obtain ⟨hl1,hl2⟩:=ha.len;have hstart:start N vs=vs.map some++List.replicate (N.length - vs.length) none:=rfl;have no:noOwn (ah ms ds N.length):=fun i d e=>by
  have hi:i < (ah ms ds N.length).length:=(IK.mp e).1;rw [bC hl1 hn] at hi;have hx:(vs.map some++List.replicate (N.length - vs.length) none)[i]?=some ((vs.map some++List.replicate (N.length - vs.length) none)[i]'(by rw [IH,II,LX];omega)):=IG _;exact (bf ha e hx:False)
 have at':∀ {i:Nat} {s:Sl},(ah ms ds N.length)[i]?=some s->∃ x,(start N vs)[i]?=some x/\At K G (·∈is) H is s x:=fun {i s} e=>by
  have hi:i < (ah ms ds N.length).length:=(IK.mp e).1;rw [bC hl1 hn] at hi;have hx:(start N vs)[i]?=some ((start N vs)[i]'(by rw [hstart,IH,II,LX];omega)):=IG _;exact ⟨_,hx,bf ha e hx⟩
 have eF:FF G (ah ms ds N.length) (start N vs)=G:=bK no;have muI:∀ i,mu (ah ms ds N.length) i->∃ c,(ah ms ds N.length)[i]?=some (.ino c):=fun i ⟨c,m⟩=>m.elim (fun z=>absurd z (no i c)) fun z=>⟨c,z⟩;have R:Rel K G H (·∈is) (ah ms ds N.length) (start N vs) H:=by
  refine ⟨by rw [bC hl1 hn,hstart,IH,II,LX];omega,fun i d e=>?_,fun i d e=>absurd e (no i d),fun i d e=>?_,fun i d e=>?_,fun i j a h1 h2 h3 h4=>?_,hd,fun _ _ h _=>h⟩
  ·rw [eF];obtain ⟨x,hx,v,rfl,r⟩:=at' e;exact ⟨v,hx,r⟩
  ·rw [eF];obtain ⟨x,hx,a,rfl,m,g,t⟩:=at' e;exact ⟨a,hx,g,m,t⟩
  ·rw [eF];obtain ⟨x,hx,a,rfl,r⟩:=at' e;refine ⟨a,hx,r.pr Pr.refl (fun _ z=>z) (fun b hb=>?_) fun _ _ z _=>z⟩;obtain ⟨j,m,s⟩:=hb;obtain ⟨c,m⟩:=muI j m;obtain ⟨x,hx,a,rfl,m,g,t⟩:=at' m;rw [s] at hx;cases hx;exact m
  ·obtain ⟨c,m1⟩:=muI i h1;obtain ⟨c',m2⟩:=muI j h2;exact iB ha m1 m2 h3 h4
 simp only [b7] at hF;rw [IV hl1] at hF
 ·have inoK:∀ {env':En} {σ':St},KpS (ah ms ds N.length) (start N vs) env' σ'->∀ (i:Nat) (c:PyData),(ah ms ds N.length)[i]?=some (.ino c)->∃ c',env'[i]?=some (.ino c')/\σ'[i]?=(vs.map some++List.replicate (N.length - vs.length) none)[i]?:=fun {env' σ'} k i c e=>by
   obtain ⟨s',e',v,w⟩:=k.2 i _ e;obtain ⟨c',rfl⟩:=v;exact ⟨c',e',w trivial⟩
  have hlE:∀ {env':En} {σ':St},KpS (ah ms ds N.length) (start N vs) env' σ'->ms.length<=env'.length:=fun {env' σ'} k=>by rw [k.1,bC hl1 hn];exact hn
  split at hF
  ·rename_i rv env' hS;split at hF
   ·rename_i pr' outs' hpr houts;cases hF;refine sS hg b _ _ hS G H (·∈is) _ H _ R fun v σ' H' R' k' r'=>?_;have mono:∀ b,G b->FF G env' σ' b:=fun b z=>.inl z;cases rv with
    | bor i=>cases hpr
    | dat d =>
     cases hpr
     exact post v H' (fun b o e n=>R'.b8 b o e n) ⟨Dm.mono mono r',dZ ha (hlE k') (inoK k') (fun i c a e s=>by
      obtain ⟨a',s',_,_,t⟩:=R'.ino i c e;rw [s] at s';cases s'
      exact t.pr Pr.refl mono fun _ z=>z) houts⟩
    | frs d =>
     cases hpr;obtain ⟨a,rfl,Ra,t,w,nF,hino,_⟩:=r';have mono':∀ b,(G b\/b=a)->FF (fun b=>G b\/b=a) env' σ' b:=fun b z=>.inl z
     refine post _ H' (fun b o e n=>R'.b8 b o e n) ⟨a,rfl,?_,t.pr Pr.refl (fun b z=>z.imp (mono b) id) (fun _ z=>z),dZ ha (hlE k') (inoK k') (fun i c a' e s=>by
      obtain ⟨a2,s',_,_,t'⟩:=Ra.ino i c e;rw [s] at s';cases s'
      exact t'.pr Pr.refl mono' fun _ z=>z) houts⟩
     rcases w with w | w
     ·exact w
     ·-- it would be one that was handed in to be changed
      exfalso;have key:∀ {ms:List PM} {ds:List PyData} {vs:List V} {is:List Addr} {I:Addr->Prop} {n:Nat} {tl:St},a9 K G I H ms ds vs is->a∈is->∃ (i:Nat) (c:PyData),(ah ms ds n)[i]?=some (.ino c)/\(vs.map some++tl)[i]?=some (some (.ref a)):=by
       intro ms;induction ms with
       | nil =>
        intro ds vs is I n tl h m;cases ds with
        | cons _ _=>exact absurd h id
        | nil=>cases vs with
         | cons _ _=>exact absurd h id
         | nil=>rw [show is=[] from h] at m;cases m
       | cons p ms ih =>
        intro ds vs is I n tl h m;cases ds with
        | nil=>cases p <;> exact absurd h id
        | cons d ds =>
         cases vs with
         | nil=>cases p <;> exact absurd h id
         | cons v vs =>
          cases p with
          | dat=>obtain ⟨i,c,e,s⟩:=ih (n:=n - 1) (tl:=tl) h.2 m;exact ⟨i+1,c,by simpa [ah] using e,by simpa using s⟩
          | bor=>obtain ⟨i,c,e,s⟩:=ih (n:=n - 1) (tl:=tl) h.2 m;exact ⟨i+1,c,by simpa [ah] using e,by simpa using s⟩
          | ino =>
           obtain ⟨b,r,rfl,rfl,g,t,nr,h⟩:=h;rcases Jb.mp m with rfl | m
           ·exact ⟨0,d,by simp [ah],by simp⟩
           ·obtain ⟨i,c,e,s⟩:=ih (n:=n - 1) (tl:=tl) h m;exact ⟨i+1,c,by simpa [ah] using e,by simpa using s⟩
      obtain ⟨i,c,e,s⟩:=key (n:=N.length) (tl:=List.replicate (N.length - vs.length) none) ha w;obtain ⟨c',e',s'⟩:=inoK k' i c e;exact hino i c' e' (s'.trans s)
   ·cases hF
  ·rename_i env' hS;split at hF
   ·rename_i outs' houts;cases hF;refine sS hg b _ _ hS G H (·∈is) _ H _ R fun σ' H' R' k'=>?_;have mono:∀ b,G b->FF G env' σ' b:=fun b z=>.inl z
    exact post .non H' (fun b o e n=>R'.b8 b o e n) ⟨rfl,dZ ha (hlE k') (inoK k') (fun i c a e s=>by
      obtain ⟨a',s',_,_,t⟩:=R'.ino i c e;rw [s] at s';cases s'
      exact t.pr Pr.refl mono fun _ z=>z) houts⟩
   ·cases hF
  ·cases hF
theorem ud {f:Fn} {vs:List V} {H:Hp} {Q:VK} {E:XK} (h:bH f K vs H Q E):vs.length=f.ms.length:=by
 obtain ⟨G,ds,is,pr,outs,_,ha,_⟩:=h;exact ha.len.2
end
end L2
end
section
namespace L2
open PySem PySem.Spec PyProof.Rows
noncomputable def Prm.two (r:Fg->R2) (f:PyData->PyData->Option PR) (ok:∀ (K:Fg) (F:Addr->Prop) (H:Hp) (x y:PyData) (u v:V) (pr:PR) (Q:VK),f x y=some pr->Vw K F H x u->Vw K F H y v->(∀ b,F b->H b≠none)->(∀ w H',aw H H'->wA K F H H' pr w->Q w H')->r K u v H Q):Prm where
 r:=fun K vs H Q=>match vs with | [u,v]=>r K u v H Q | _=>False
 f:=fun ds=>match ds with | [x,y]=>f x y | _=>none
 ok:=fun K F H ds vs pr Q hf hv hd q=>by
  match ds,hf with
  | [x,y],hf =>
   obtain ⟨u,r1,rfl,h1,v,r2,rfl,h2,rfl⟩:=hv;exact ok K F H x y u v pr Q hf h1 h2 hd q
noncomputable def Prm.one (r:Fg->V->Hp->VK->Prop) (f:PyData->Option PR) (ok:∀ (K:Fg) (F:Addr->Prop) (H:Hp) (x:PyData) (u:V) (pr:PR) (Q:VK),f x=some pr->Vw K F H x u->(∀ b,F b->H b≠none)->(∀ w H',aw H H'->wA K F H H' pr w->Q w H')->r K u H Q):Prm where
 r:=fun K vs H Q=>match vs with | [u]=>r K u H Q | _=>False
 f:=fun ds=>match ds with | [x]=>f x | _=>none
 ok:=fun K F H ds vs pr Q hf hv hd q=>by
  match ds,hf with
  | [x],hf =>
   obtain ⟨u,r1,rfl,h1,rfl⟩:=hv;exact ok K F H x u pr Q hf h1 hd q
section
variable {K:Fg} {F F':Addr->Prop} {H:Hp}
theorem vInt {i:Int} {v:V} (h:Vw K F H (.int i) v):v=.int i:=h
theorem vBl {b:Bool} {v:V} (h:Vw K F H (.bool b) v):v=.bl b:=h
theorem Gq {v:V} (h:Vw K F H .none v):v=.non:=h
theorem vStr {x:Str} {v:V} (h:Vw K F H (.str x) v):v=.str x/\x.length<=sizeLine/\PyData.strOk x=true:=h
theorem nG {ds:List PyData} {v:V} (h:Vw K F H (.list ds) v):∃ a xs,v=.ref a/\SqL K H a xs/\xs.length<=sizeLine/\DmL K F H ds xs:=let ⟨a,e,xs,r⟩:=h;⟨a,xs,e,r⟩
theorem uV {ds:List PyData} {v:V} (h:Vw K F H (.tuple ds) v):∃ a xs,v=.ref a/\SqT K H a xs/\xs.length<=sizeLine/\DmL K F H ds xs:=h
theorem GK {p:Addr} {xs:List V} {ds:List PyData} (hp:H p=none) (hz:xs.length<=sizeLine) (h:DmL K F H ds xs):wA K F H (upd H p (.lst xs)) (.frs (.list ds)) (.ref p) :=
 ⟨p,rfl,hp,xs,ag,hz,(h.fresh hp).pr (Pr.of_same (aw.nw _ hp)) fun _ z=>z⟩
theorem Dn {p:Addr} {xs:List V} {ds:List PyData} (hp:H p=none) (hz:xs.length<=sizeLine) (h:DmL K F H ds xs):wA K F H (upd H p (.tup xs)) (.dat (.tuple ds)) (.ref p) :=
 ⟨p,xs,rfl,.inl (.inl ag),hz,h.pr (Pr.of_same (aw.nw _ hp)) fun _ z=>z⟩
end
noncomputable def Gs:PyData->PyData->Option PR
 | .int i,.int j=>some (.dat (.int (i+j)))
 | .str x,.str y=>if x.length+y.length<=sizeLine then some (.dat (.str (x++y))) else none
 | .list xs,.list ys=>if xs.length+ys.length<=sizeLine then some (.frs (.list (xs++ys))) else none
 | .tuple (x :: xs),.tuple ys=>if (x :: xs).length+ys.length<=sizeLine then some (.dat (.tuple ((x :: xs)++ys))) else none
 | _,_=>none
noncomputable def E3 (K:Fg):R2:=rOr (rI0 fun i j=>.int (i+j)) (rOr zU (rOr (AL K) (AS K)))
theorem gM (x y:Str):(x++y).length=x.length+y.length:=by
 show (x.cps++y.cps).size=_;rw [Array.size_append];rfl
noncomputable def jt:Prm:=Prm.two E3 Gs fun K F H x y u v pr Q hf hx hy hd q=>by
 unfold Gs at hf;split at hf
 ·cases hf;rw [vInt hx,vInt hy];exact .inl ⟨_,_,rfl,rfl,q _ H (aw.rf H) rfl⟩
 ·split at hf
  ·rename_i x y hl;cases hf;obtain ⟨rfl,l1,o1⟩:=vStr hx;obtain ⟨rfl,l2,o2⟩:=vStr hy;exact .inr (.inl ⟨_,_,rfl,rfl,hl,q _ H (aw.rf H) ⟨rfl,by rw [gM];exact hl,j4 o1 o2⟩⟩)
  ·cases hf
 ·split at hf
  ·rename_i xs ys hl;cases hf;obtain ⟨a,us,rfl,s1,z1,d1⟩:=nG hx;obtain ⟨b,ws,rfl,s2,z2,d2⟩:=nG hy;have hl':us.length+ws.length<=sizeLine:=by rw [d1.len,d2.len];exact hl
   exact .inr (.inr (.inl ⟨a,b,us,ws,rfl,rfl,s1,s2,hl',fun p hp=>q _ _ (aw.nw _ hp) (GK hp (by rw [IH];exact hl') (d1.app d2))⟩))
  ·cases hf
 ·split at hf
  ·rename_i x xs ys hl;cases hf;obtain ⟨a,us,rfl,s1,z1,d1⟩:=uV hx;obtain ⟨b,ws,rfl,s2,z2,d2⟩:=uV hy;have hl':us.length+ws.length<=sizeLine:=by rw [d1.len,d2.len];exact hl
   have hne:us≠[]:=fun z=>by rw [z] at d1;obtain ⟨v,r,e,_⟩:=d1;cases e
   refine .inr (.inr (.inr ⟨a,b,us,ws,rfl,rfl,s1,s2,hne,hl',fun z=>?_,fun z p hp=>q _ _ (aw.nw _ hp) (Dn hp (by rw [IH];exact hl') (d1.app d2))⟩));subst z;have hys:ys=[]:=by
    cases ys with
    | nil=>rfl
    | cons y ys=>obtain ⟨v,r,e,_⟩:=d2;cases e
   subst hys;exact q _ H (aw.rf H) ⟨a,us,rfl,s1,z1,by rw [Jp];exact d1⟩
  ·cases hf
 ·cases hf
theorem aL {X:Cx}:OpR X (binaryOp .Add) (fun x y=>jt.r X.K [x,y]):=orR zK (orR yP (orR xr xp))
noncomputable def y4 (c:Int->Int->Bool) (g:Int->Int->PyData):PyData->PyData->Option PR
 | .int i,.int j=>if c i j=true then some (.dat (g i j)) else none
 | _,_=>none
noncomputable def Prm.ints (C:Int->Int->Prop) (c:Int->Int->Bool) (hc:∀ i j,c i j=true->C i j) (g:Int->Int->Int):Prm:=Prm.two (fun _=>rI C fun i j=>.int (g i j)) (y4 c fun i j=>.int (g i j)) fun K F H x y u v pr Q hf hx hy hd q=>by
 unfold y4 at hf;split at hf
 ·split at hf
  ·rename_i h;cases hf;rw [vInt hx,vInt hy];exact ⟨_,_,rfl,rfl,hc _ _ h,q _ H (aw.rf H) rfl⟩
  ·cases hf
 ·cases hf
noncomputable def Prm.zz (g:Int->Int->Bool):Prm:=Prm.two (fun _=>rI0 fun i j=>.bl (g i j)) (y4 (fun _ _=>true) fun i j=>.bool (g i j)) fun K F H x y u v pr Q hf hx hy hd q=>by
 unfold y4 at hf;split at hf
 ·rw [IV rfl] at hf;cases hf;rw [vInt hx,vInt hy];exact ⟨_,_,rfl,rfl,q _ H (aw.rf H) rfl⟩
 ·cases hf
noncomputable def C6:Prm:=Prm.two (fun _=>rI0 fun i j=>.int (i - j)) (y4 (fun _ _=>true) fun i j=>.int (i - j)) fun K F H x y u v pr Q hf hx hy hd q=>by
 unfold y4 at hf;split at hf
 ·rw [IV rfl] at hf;cases hf;rw [vInt hx,vInt hy];exact ⟨_,_,rfl,rfl,q _ H (aw.rf H) rfl⟩
 ·cases hf
theorem lU {X:Cx}:OpR X (binaryOp .Sub) (fun x y=>C6.r X.K [x,y]):=BA
noncomputable def mulC (i j:Int):Bool:=(decide (-(2 ^ 64) < i)&&decide (i < 2 ^ 64))||(decide (-(2 ^ 64) < j)&&decide (j < 2 ^ 64))
noncomputable def vV:Prm:=Prm.ints A0 mulC (fun i j h=>by simpa [mulC,A0,Bool.or_eq_true,Jx,LG] using h) (fun i j=>i*j)
theorem cY {X:Cx}:OpR X (binaryOp .Mult) (fun x y=>vV.r X.K [x,y]):=A8
noncomputable def wa:Prm:=Prm.ints (fun _ j=>0 < j) (fun _ j=>decide (0 < j)) (fun i j h=>by simpa using h) (fun i j=>i % j)
theorem cS {X:Cx}:OpR X (binaryOp .Mod) (fun x y=>wa.r X.K [x,y]):=AQ
noncomputable def yS:Prm:=Prm.ints (fun _ j=>0 < j/\j.natAbs.log2 < 9000) (fun _ j=>decide (0 < j)&&decide (j < 2 ^ 200)) (fun i j h=>by
 simp only [Jx,LG] at h;refine ⟨h.1,?_⟩;have hz:j.natAbs≠0:=by omega
 have:j.natAbs < 2 ^ 200:=by omega
 exact Jo ((Nat.log2_lt hz).mpr this) (by decide)) (fun i j=>i / j)
theorem mV {X:Cx}:OpR X (binaryOp .FloorDiv) (fun x y=>yS.r X.K [x,y]):=uW
noncomputable def FL:Prm:=Prm.ints Hb (fun i j=>decide (0<=j)&&decide (j<=1000000)&&decide (i.natAbs < 2 ^ 64)) (fun i j h=>by simp only [Jx,LG] at h;exact ⟨h.1.1,h.1.2,h.2⟩) (fun i j=>i ^ j.toNat)
theorem qv {X:Cx}:OpR X (binaryOp .Pow) (fun x y=>FL.r X.K [x,y]):=z4
noncomputable def GV:Prm:=Prm.one (fun _=>rU fun i=>.int (-i)) (fun x=>match x with | .int i=>some (.dat (.int (-i))) | _=>none) fun K F H x u pr Q hf hx hd q=>by
 split at hf
 ·cases hf;rw [vInt hx];exact ⟨_,rfl,q _ H (aw.rf H) rfl⟩
 ·cases hf
noncomputable def zx (g:Int->Int->Bool) (h:Str->Str->Bool):PyData->PyData->Option PR
 | .int i,.int j=>some (.dat (.bool (g i j)))
 | .str x,.str y=>some (.dat (.bool (h x y)))
 | _,_=>none
noncomputable def ltS (x y:Str):Bool:=decide (x.cps.toList < y.cps.toList)
noncomputable def leS (x y:Str):Bool:=!decide (y.cps.toList < x.cps.toList)
noncomputable def ltP:Prm:=Prm.two (fun _=>rOr (rI0 fun i j=>.bl (decide (i < j))) Ec) (zx (fun i j=>decide (i < j)) ltS) fun K F H x y u v pr Q hf hx hy hd q=>by
 unfold zx at hf;split at hf
 ·cases hf;rw [vInt hx,vInt hy];exact .inl ⟨_,_,rfl,rfl,q _ H (aw.rf H) rfl⟩
 ·cases hf;rw [(vStr hx).1,(vStr hy).1];exact .inr ⟨_,_,rfl,rfl,q _ H (aw.rf H) rfl⟩
 ·cases hf
theorem jD {X:Cx}:OpR X (compareOp .Lt) (fun x y=>ltP.r X.K [x,y]):=orR E7 Ba
noncomputable def leP:Prm:=Prm.two (fun _=>rOr (rI0 fun i j=>.bl (decide (i<=j))) GC) (zx (fun i j=>decide (i<=j)) leS) fun K F H x y u v pr Q hf hx hy hd q=>by
 unfold zx at hf;split at hf
 ·cases hf;rw [vInt hx,vInt hy];exact .inl ⟨_,_,rfl,rfl,q _ H (aw.rf H) rfl⟩
 ·cases hf;rw [(vStr hx).1,(vStr hy).1];exact .inr ⟨_,_,rfl,rfl,q _ H (aw.rf H) rfl⟩
 ·cases hf
theorem ju {X:Cx}:OpR X (compareOp .LtE) (fun x y=>leP.r X.K [x,y]):=orR Gf Az
noncomputable def gtP:Prm:=Prm.zz fun i j=>decide (i > j)
theorem wC {X:Cx}:OpR X (compareOp .Gt) (fun x y=>gtP.r X.K [x,y]):=Ga
noncomputable def geP:Prm:=Prm.zz fun i j=>decide (i>=j)
theorem zW {X:Cx}:OpR X (compareOp .GtE) (fun x y=>geP.r X.K [x,y]):=EU
mutual
noncomputable def noD:PyData->Bool
 | .dict _=>false
 | .list xs=>cj xs
 | .tuple xs=>cj xs
 | _=>true
noncomputable def cj:List PyData->Bool
 | []=>true
 | x :: xs=>noD x&&cj xs
end
section
variable {K:Fg} {F:Addr->Prop} {H:Hp}
mutual
theorem Dm.lay:∀ {d:PyData} {v:V},Dm K F H d v->noD d=true->d.canLay0=true
 | .none,v,h,_=>by simp [PyData.canLay0]
 | .bool b,v,h,_=>by simp [PyData.canLay0]
 | .int i,v,h,_=>by simp [PyData.canLay0]
 | .str x,v,h,_=>by simpa [PyData.canLay0] using h.2.2
 | .list ds,v,h,n=>by obtain ⟨a,xs,e,l,z,r⟩:=h;simpa [PyData.canLay0] using DmL.lay r (by simpa [noD] using n)
 | .tuple ds,v,h,n=>by obtain ⟨a,xs,e,l,z,r⟩:=h;simpa [PyData.canLay0] using DmL.lay r (by simpa [noD] using n)
 | .dict kvs,v,h,n=>by simp [noD] at n
theorem DmL.lay:∀ {ds:List PyData} {vs:List V},DmL K F H ds vs->cj ds=true->PyData.canLayAll0 ds=true
 | [],vs,h,_=>by simp [PyData.canLayAll0]
 | d :: ds,vs,h,n=>by
  obtain ⟨v,r,e,h1,h2⟩:=h;have n':noD d=true/\cj ds=true:=by simpa [cj] using n
  simp [PyData.canLayAll0,Dm.lay h1 n'.1,DmL.lay h2 n'.2]
end
theorem Vw.lay {d:PyData} {v:V} (h:Vw K F H d v) (n:noD d=true):d.canLay0=true:=by
 cases d with
 | list ds=>obtain ⟨a,xs,e,l,z,r⟩:=nG h;simpa [PyData.canLay0] using DmL.lay r (by simpa [noD] using n)
 | dict ds=>simp [noD] at n
 | _=>exact Dm.lay (K:=K) (F:=F) (H:=H) h n
variable {X:Cx} {pins:List (Addr×Obj)} {σ:St} {s:Shared}
mutual
theorem Dm.reads (I:Inv X pins σ H s):∀ {d:PyData} {v:V} {u:Value},Dm X.K F H d v->noD d=true->RelV v u->∃ as,Reads s.heap u d as
 | .none,v,u,hd,_,r=>by
  have e:v=.non:=hd;subst e;cases (show u=Value.none from r);exact ⟨_,.none⟩
 | .bool b,v,u,hd,_,r=>by
  have e:v=.bl b:=hd;subst e;cases (show u=Value.bool b from r);exact ⟨_,.bool b⟩
 | .int i,v,u,hd,_,r=>by
  have e:v=.int i:=hd;subst e;obtain ⟨t,e⟩:=(show ∃ t,u=Value.int i t from r);subst e;exact ⟨_,.int i t⟩
 | .str y,v,u,hd,_,r=>by
  have e:v=.str y:=hd.1;subst e;obtain ⟨t,e⟩:=(show ∃ t,u=Value.str y t from r);subst e;exact ⟨_,.str y t⟩
 | .list ds,v,u,hd,n,r=>by
  obtain ⟨a,xs,e,l,z,rs⟩:=hd;subst e;cases (show u=Value.ref a from r);obtain ⟨its,rv,⟨o,k,h1,h2,h3,h4⟩,_⟩:=I.list (l.elim (fun q=>.inl q.2) .inr);obtain ⟨as,ra⟩:=DmL.reads I rs (by simpa [noD] using n) rv;exact ⟨_,.list h1 h2 h4 (by simpa using ra)⟩
 | .tuple ds,v,u,hd,n,r=>by
  obtain ⟨a,xs,e,l,z,rs⟩:=hd;subst e;cases (show u=Value.ref a from r);obtain ⟨its,rv,⟨o,h1,h2,k,h4⟩,_⟩:=I.tuple l;obtain ⟨as,ra⟩:=DmL.reads I rs (by simpa [noD] using n) rv;exact ⟨_,.tuple h1 h2 h4 (by simpa using ra)⟩
 | .dict kvs,v,u,hd,n,r=>by simp [noD] at n
theorem DmL.reads (I:Inv X pins σ H s):∀ {ds:List PyData} {vs:List V} {us:List Value},DmL X.K F H ds vs->cj ds=true->Vals vs us->∃ as,ReadsAll s.heap us ds as
 | [],vs,us,hd,_,r=>by
  have e:vs=[]:=hd;subst e;cases r;exact ⟨_,.nil⟩
 | d :: ds,vs,us,hd,n,r=>by
  obtain ⟨v,rr,e,h1,h2⟩:=hd;have n':noD d=true/\cj ds=true:=by simpa [cj] using n
  subst e;cases r with
  | cons r1 r2 =>
   obtain ⟨as,q1⟩:=Dm.reads I h1 n'.1 r1;obtain ⟨bs,q2⟩:=DmL.reads I h2 n'.2 r2;exact ⟨_,.cons q1 q2⟩
end
theorem Vw.reads (I:Inv X pins σ H s) {d:PyData} {v:V} {u:Value} (h:Vw X.K F H d v) (n:noD d=true) (r:RelV v u):∃ as,Reads s.heap u d as:=by
 cases d with
 | list ds =>
  obtain ⟨a,xs,rfl,l,z,rs⟩:=nG h;cases (show u=Value.ref a from r);obtain ⟨its,rv,⟨o,k,h1,h2,h3,h4⟩,_⟩:=I.list l;obtain ⟨as,ra⟩:=DmL.reads I rs (by simpa [noD] using n) rv;exact ⟨_,.list h1 h2 h4 (by simpa using ra)⟩
 | dict ds=>simp [noD] at n
 | _=>exact Dm.reads (F:=F) I h n r
end
noncomputable def fm (d:PyData):Bool:=noD d&&decide (d.depth<=64)
noncomputable def HN (neg:Bool) (K:Fg):R2:=fun x y H Q=>∃ F d e,Vw K F H d x/\Vw K F H e y/\fm d=true/\fm e=true/\Q (.bl (if neg then !PyData.eqv d e else PyData.eqv d e)) H
noncomputable def eqD (neg:Bool) (d e:PyData):Option PR:=if fm d=true/\fm e=true then some (.dat (.bool (if neg then !PyData.eqv d e else PyData.eqv d e))) else none
noncomputable def CU (neg:Bool):Prm:=Prm.two (HN neg) (eqD neg) fun K F H x y u v pr Q hf hx hy hd q=>by
 unfold eqD at hf;split at hf
 ·rename_i h;cases hf;exact ⟨F,x,y,hx,hy,h.1,h.2,q _ H (aw.rf H) rfl⟩
 ·cases hf
noncomputable abbrev eqP:Prm:=CU false
noncomputable abbrev neP:Prm:=CU true
theorem dB {K:Fg} {F:Addr->Prop} {H:Hp} {d:PyData} {v:V} (h:Vw K F H d v) (o:fm d=true):SeqAt.shaped d=true:=by
 have o':noD d=true/\d.depth<=64:=by simpa [fm] using o
 simp [SeqAt.shaped,h.lay o'.1,o'.2]
theorem aO {X:Cx} (hu:X.A.units+64 < cLine):OpR X (compareOp .Eq) (fun x y=>eqP.r X.K [x,y]):=by
 intro pins s σ H x y v u Q I rx ry h;obtain ⟨F,d,e,h1,h2,o1,o2,hq⟩:=h;obtain ⟨as,r1⟩:=h1.reads I (by have:=o1;simp [fm] at this;exact this.1) rx;obtain ⟨bs,r2⟩:=h2.reads I (by have:=o2;simp [fm] at this;exact this.1) ry;exact SeqAt.compareEq_shaped r1 r2 (dB h1 o1) (dB h2 o2) hu ⟨.bl _,H,I,rfl,hq⟩
theorem il {X:Cx} (hu:X.A.units+64 < cLine):OpR X (compareOp .NotEq) (fun x y=>neP.r X.K [x,y]):=by
 intro pins s σ H x y v u Q I rx ry h;obtain ⟨F,d,e,h1,h2,o1,o2,hq⟩:=h;obtain ⟨as,r1⟩:=h1.reads I (by have:=o1;simp [fm] at this;exact this.1) rx;obtain ⟨bs,r2⟩:=h2.reads I (by have:=o2;simp [fm] at this;exact this.1) ry;exact SeqAt.compareNe_shaped r1 r2 (dB h1 o1) (dB h2 o2) hu ⟨.bl _,H,I,rfl,hq⟩
noncomputable def ixD:PyData->PyData->Option PR
 | .list xs,.int i=>(atI xs i).map .dat
 | .tuple xs,.int i=>(atI xs i).map .dat
 | .str x,.int i=>(atI x.cps.toList i).map fun c=>.dat (.str ⟨#[c]⟩)
 | _,_=>none
theorem wc {K:Fg} {F:Addr->Prop} {H:Hp} {ds:List PyData} {xs:List V} {i:Int} {d:PyData} (h:DmL K F H ds xs) (e:atI ds i=some d):∃ v,atI xs i=some v/\Dm K F H d v:=by
 unfold atI at e ⊢;rw [h.len];cases q:ixN ds.length i with
 | none=>rw [q] at e;cases e
 | some j =>
  rw [q] at e;have e:ds[j]?=some d:=e;exact h.get e
theorem xm {α:Type} {xs:List α} {i:Int} {x:α} (e:atI xs i=some x):x∈xs:=by
 unfold atI at e;cases q:ixN xs.length i with
 | none=>rw [q] at e;cases e
 | some j=>rw [q] at e;exact Jl (show xs[j]?=some x from e)
noncomputable def ixP:Prm:=Prm.two rIx ixD fun K F H x y u v pr Q hf hx hy hd q=>by
 unfold ixD at hf;split at hf
 ·obtain ⟨d,e,rfl⟩:=Jd.mp hf;obtain ⟨a,us,rfl,s1,z1,d1⟩:=nG hx;rw [vInt hy];obtain ⟨v,ev,dv⟩:=wc d1 e;exact .inl ⟨a,us,_,v,rfl,rfl,s1,ev,q _ H (aw.rf H) dv⟩
 ·obtain ⟨d,e,rfl⟩:=Jd.mp hf;obtain ⟨a,us,rfl,s1,z1,d1⟩:=uV hx;rw [vInt hy];obtain ⟨v,ev,dv⟩:=wc d1 e;exact .inr (.inl ⟨a,us,_,v,rfl,rfl,s1,ev,q _ H (aw.rf H) dv⟩)
 ·rename_i x i;obtain ⟨c,e,rfl⟩:=Jd.mp hf;obtain ⟨rfl,l1,o1⟩:=vStr hx;rw [vInt hy];have hc:=gF o1 c (xm e);exact .inr (.inr ⟨_,_,c,rfl,rfl,l1,e,q _ H (aw.rf H) ⟨rfl,by show 1<=sizeLine;decide,by simp [PyData.strOk,hc]⟩⟩)
 ·cases hf
theorem bV {X:Cx}:IxR X (fun x y=>ixP.r X.K [x,y]):=Bk
noncomputable def cutD {α:Type} (xs:List α) (lo hi:Option Int):List α:=(xs.drop (HT.sIx xs.length 0 lo)).take (HT.sIx xs.length xs.length hi - HT.sIx xs.length 0 lo)
noncomputable def slD (lo hi:Option Int):PyData->Option PR
 | .list xs=>some (.frs (.list (cutD xs lo hi)))
 | .tuple xs=>if HT.sIx xs.length 0 lo=0/\HT.sIx xs.length xs.length hi=xs.length then none else some (.dat (.tuple (cutD xs lo hi)))
 | .str x=>some (.dat (.str (oo x lo hi)))
 | _=>none
noncomputable def Du (K:Fg) (lo hi:Option Int):V->Hp->VK->Prop:=fun x H Q=>FT GR (FT (Gm K) (Hi K)) x lo hi H Q
section
variable {K:Fg} {F:Addr->Prop} {H:Hp}
theorem DmL.drop:∀ {ds:List PyData} {xs:List V} (n:Nat),DmL K F H ds xs->DmL K F H (ds.drop n) (xs.drop n)
 | ds,xs,0,h=>h
 | [],xs,n+1,h=>by rw [show xs=[] from h];rfl
 | d :: ds,xs,n+1,h=>by obtain ⟨v,r,rfl,_,h2⟩:=h;exact DmL.drop n h2
theorem DmL.take:∀ {ds:List PyData} {xs:List V} (n:Nat),DmL K F H ds xs->DmL K F H (ds.take n) (xs.take n)
 | ds,xs,0,h=>by rw [List.take_zero,List.take_zero];rfl
 | [],xs,n+1,h=>by rw [show xs=[] from h];rfl
 | d :: ds,xs,n+1,h=>by obtain ⟨v,r,rfl,h1,h2⟩:=h;exact ⟨v,_,rfl,h1,DmL.take n h2⟩
theorem DmL.cut {ds:List PyData} {xs:List V} (lo hi:Option Int) (h:DmL K F H ds xs):DmL K F H (cutD ds lo hi) (tw xs lo hi):=by
 unfold cutD tw;rw [h.len];exact (h.drop _).take _
theorem m8 (xs:List V) (lo hi:Option Int):(tw xs lo hi).length<=xs.length:=by
 unfold tw;rw [JR,Ki];omega
theorem rH {x:Str} (lo hi:Option Int) (h:PyData.strOk x=true):PyData.strOk (oo x lo hi)=true:=by
 have hm:=gF h;unfold PyData.strOk oo;rw [Array.all_eq_true'];intro c hc;have:c∈(x.cps.toList.drop (HT.sIx x.length 0 lo)).take (HT.sIx x.length x.length hi - HT.sIx x.length 0 lo):=by simpa using hc
 have:=hm c (List.mem_of_mem_drop (List.mem_of_mem_take this));simpa using this
theorem AK {lo hi:Option Int} {x:PyData} {u:V} {pr:PR} {Q:VK} (hf:slD lo hi x=some pr) (hx:Vw K F H x u) (q:∀ w H',aw H H'->wA K F H H' pr w->Q w H'):Du K lo hi u H Q:=by
 unfold slD at hf;split at hf
 ·cases hf;obtain ⟨a,us,rfl,s1,z1,d1⟩:=nG hx;exact .inr (.inl ⟨a,us,rfl,s1,fun p hp=>q _ _ (aw.nw _ hp) (GK hp (Jt (m8 _ _ _) z1) (d1.cut lo hi))⟩)
 ·split at hf
  ·cases hf
  rename_i hn;cases hf;obtain ⟨a,us,rfl,s1,z1,d1⟩:=uV hx;exact .inr (.inr ⟨a,us,rfl,s1,by rw [d1.len];exact hn,fun p hp=>q _ _ (aw.nw _ hp) (Dn hp (Jt (m8 _ _ _) z1) (d1.cut lo hi))⟩)
 ·cases hf;obtain ⟨rfl,l1,o1⟩:=vStr hx;exact .inl ⟨_,rfl,l1,q _ H (aw.rf H) ⟨rfl,Jt (fZ _ _ _) l1,rH lo hi o1⟩⟩
 ·cases hf
end
noncomputable def Hu:Prm:=Prm.two (fun K x y H Q=>∃ i,y=.int i/\Du K (some i) none x H Q) (fun x y=>match y with | .int i=>slD (some i) none x | _=>none) fun K F H x y u v pr Q hf hx hy hd q=>by
 split at hf
 ·exact ⟨_,vInt hy,AK hf hx q⟩
 ·cases hf
noncomputable def HX:Prm:=Prm.two (fun K x y H Q=>∃ i,y=.int i/\Du K none (some i) x H Q) (fun x y=>match y with | .int i=>slD none (some i) x | _=>none) fun K F H x y u v pr Q hf hx hy hd q=>by
 split at hf
 ·exact ⟨_,vInt hy,AK hf hx q⟩
 ·cases hf
noncomputable def Gk:PyData->Option PR
 | .str x=>some (.dat (.int x.length))
 | .list xs=>some (.dat (.int xs.length))
 | .tuple xs=>some (.dat (.int xs.length))
 | _=>none
noncomputable def kE:Prm:=Prm.one (fun K x=>AG K [x]) Gk fun K F H x u pr Q hf hx hd q=>by
 unfold Gk at hf;split at hf
 ·cases hf;obtain ⟨rfl,l1,o1⟩:=vStr hx;exact z7 l1 (q _ H (aw.rf H) rfl)
 ·cases hf;obtain ⟨a,us,rfl,s1,z1,d1⟩:=nG hx;exact BN s1 (q _ H (aw.rf H) (by rw [d1.len];rfl))
 ·cases hf;obtain ⟨a,us,rfl,s1,z1,d1⟩:=uV hx;exact Cu s1 (q _ H (aw.rf H) (by rw [d1.len];rfl))
 ·cases hf
theorem jz {X:Cx} {f:Value} {r:List V->Hp->VK->Prop} {r':V->Hp->VK->Prop} (h:aQ X f r) (e:∀ x H Q,r' x H Q->r [x] H Q):aQ X f (fun vs H Q=>match vs with | [u]=>r' u H Q | _=>False):=by
 intro pins s σ H xs us Q I rv q
 match xs,q with
 | [x],q=>exact h pins s σ H [x] us Q I rv (e x H Q q)
theorem aZ {X:Cx}:aQ X (.builtin "len") (kE.r X.K):=jz rh fun _ _ _ h=>h
noncomputable def CS:Prm:=Prm.one (fun _ x=>Ej [x]) (fun x=>match x with | .int i=>some (.dat (.int (if i < 0 then -i else i))) | _=>none) fun K F H x u pr Q hf hx hd q=>by
 split at hf
 ·cases hf;rw [vInt hx];exact Dq (q _ H (aw.rf H) rfl)
 ·cases hf
theorem lJ {X:Cx}:aQ X (.builtin "abs") (CS.r X.K):=jz oI fun _ _ _ h=>h
noncomputable def GY:Prm:=Prm.one (fun _ x=>Ce [x]) (fun x=>match x with | .int i=>some (.dat (.int i)) | .bool k=>some (.dat (.int (if k then 1 else 0))) | _=>none) fun K F H x u pr Q hf hx hd q=>by
 split at hf
 ·cases hf;rw [vInt hx];exact .inl ⟨_,rfl,q _ H (aw.rf H) rfl⟩
 ·cases hf;rw [vBl hx];exact .inr ⟨_,rfl,q _ H (aw.rf H) rfl⟩
 ·cases hf
theorem x8 {X:Cx}:aQ X (.type "int") (GY.r X.K):=jz qh fun _ _ _ h=>h
noncomputable def zd (T:String) (x:PyData):Option PR:=match T with
 | "str" => some (.dat (.bool (isS x)))
 | "int" => some (.dat (.bool (isI x)))
 | "bool" => some (.dat (.bool (isB x)))
 | "tuple" => some (.dat (.bool (isT x)))
 | "list" => some (.dat (.bool (isL x)))
 | _=>none
noncomputable def Fd (T:String) (K:Fg):V->Hp->VK->Prop:=fun x H Q=>∃ F d b,Vw K F H d x/\zd T d=some (.dat (.bool b))/\Q (.bl b) H
theorem Dk {T:String} {d:PyData} {pr:PR} (h:zd T d=some pr):∃ b,pr=.dat (.bool b):=by
 unfold zd at h;split at h <;> first | (cases h;exact ⟨_,rfl⟩) | cases h
noncomputable def kN (T:String):Prm:=Prm.one (Fd T) (zd T) fun K F H x u pr Q hf hx hd q=>by
 obtain ⟨b,rfl⟩:=Dk hf;exact ⟨F,x,b,hx,hf,q _ H (aw.rf H) rfl⟩
theorem yA {K:Fg} {T:String} {d:PyData} {b:Bool} (h:zd T d=some (.dat (.bool b))):PySem.W.kitOne K (.type (tyN d)) (.type T)=some b:=by
 unfold zd at h;split at h
 ·cases h;exact Ff d
 ·cases h;exact EB d
 ·cases h;exact Ds d
 ·cases h;exact Cz d
 ·cases h;exact Av d
 ·cases h
noncomputable def Hj (K:Fg):List V->Hp->VK->Prop:=fun vs H Q=>match vs with | [x,.ty T]=>(kN T).r K [x] H Q | _=>False
theorem yZ {X:Cx}:aQ X (.builtin "isinstance") (Hj X.K):=by
 intro pins s σ H xs us Q I r h
 match xs,h with
 | [x,.ty T'],h =>
  obtain ⟨F,d,b,hv,hb,q⟩:=h;obtain ⟨u,w',rfl,r1,r2⟩:=vals2 r;cases (show w'=Value.type T' from r2);have e:=yA (K:=X.K) hb;have fin:∀ tk,EP X pins σ Q (.bool b) { s with toks:=tk }:=fun tk=>⟨.bl b,H,I.tok _,rfl,q⟩;cases d with
  | none=>rw [Gq hv] at r1;cases (show u=Value.none from r1);exact K9 PySem.W.kitx_none I.kIn True.intro e (fun z=>nomatch z) fin
  | bool y=>rw [vBl hv] at r1;cases (show u=Value.bool y from r1);exact K9 PySem.W.kitx_bool I.kIn True.intro e (fun z=>nomatch z) fin
  | int i=>rw [vInt hv] at r1;obtain ⟨t,q⟩:=(show ∃ t,u=Value.int i t from r1);cases q;exact K9 PySem.W.kitx_int I.kIn True.intro e (fun z=>nomatch z) fin
  | str y=>rw [(vStr hv).1] at r1;obtain ⟨t,q⟩:=(show ∃ t,u=Value.str y t from r1);cases q;exact K9 PySem.W.kitx_str I.kIn True.intro e (fun z=>nomatch z) fin
  | list ds =>
   obtain ⟨a,xs,rfl,l,z,rs⟩:=nG hv;cases (show u=Value.ref a from r1);obtain ⟨its,rv,⟨o,k,h1,h2,h3,h4⟩,_⟩:=I.list l;exact K9 PySem.W.kitx_list I.kIn ⟨o,h1,h2⟩ e (fun z=>nomatch z) fin
  | tuple ds =>
   obtain ⟨a,xs,rfl,l,z,rs⟩:=uV hv;cases (show u=Value.ref a from r1);obtain ⟨its,rv,⟨o,h1,h2,k,h4⟩,_⟩:=I.tuple l;exact K9 PySem.W.kitx_tuple I.kIn ⟨o,h1,h2⟩ e (fun z=>nomatch z) fin
  | dict ds =>
   obtain ⟨a,rfl,ep,xs,ea,_⟩:=hv;cases (show u=Value.ref a from r1);obtain ⟨_,_,_,o,es,h1,h2,_⟩:=(show aW X.prog X.w H s.heap a (.dD ep xs) from I.hok a _ ea);exact K9 PySem.W.kitx_dict I.kIn ⟨o,h1,h2.1⟩ e (fun z=>nomatch z) fin
noncomputable def vv:PyData->Option PR
 | .list xs=>some (.dat (.tuple xs))
 | .tuple xs=>some (.dat (.tuple xs))
 | _=>none
noncomputable def wB:Prm:=Prm.one (fun K x=>vB K [x]) vv fun K F H x u pr Q hf hx hd q=>by
 unfold vv at hf;split at hf
 ·cases hf;obtain ⟨a,us,rfl,s1,z1,d1⟩:=nG hx;exact ⟨a,us,rfl,.inl ⟨s1,fun p hp=>q _ _ (aw.nw _ hp) (Dn hp z1 d1)⟩⟩
 ·cases hf;obtain ⟨a,us,rfl,s1,z1,d1⟩:=uV hx;exact ⟨a,us,rfl,.inr ⟨s1,q _ H (aw.rf H) ⟨a,us,rfl,s1,z1,d1⟩⟩⟩
 ·cases hf
theorem sD {X:Cx}:aQ X (.type "tuple") (wB.r X.K):=jz lW fun _ _ _ h=>h
theorem tV (s:String):PyData.strOk (Str.ofString s)=true:=by
 rw [Str.ofString_eq_toList];unfold PyData.strOk;rw [Array.all_eq_true'];intro c hc;have:c∈s.toList.map Char.toNat:=by simpa using hc
 obtain ⟨ch,_,rfl⟩:=Jz.mp this;have:=ch.valid;simp only [LG];rcases this with h | ⟨_,h⟩
 ·show ch.val.toNat < _;have:ch.val.toNat < 0xD800:=h;omega
 ·exact h
noncomputable def gP:List PyData->Option (List Bool)
 | []=>some []
 | .bool b :: r=>match gP r with | some bs=>some (b :: bs) | none=>none
 | _ :: _=>none
theorem qt {K:Fg} {F:Addr->Prop} {H:Hp}:∀ {ds:List PyData} {xs:List V} {bs:List Bool},gP ds=some bs->DmL K F H ds xs->xs=bs.map V.bl
 | [],xs,bs,h,q=>by cases h;exact q
 | .bool b :: r,xs,bs,h,q=>by
  unfold gP at h;split at h
  ·rename_i bs' h';cases h;obtain ⟨v,vr,rfl,h1,h2⟩:=q;rw [qt h' h2,show v=.bl b from h1];rfl
  ·cases h
 | .none :: r,xs,bs,h,q=>by cases h
 | .int _ :: r,xs,bs,h,q=>by cases h
 | .str _ :: r,xs,bs,h,q=>by cases h
 | .list _ :: r,xs,bs,h,q=>by cases h
 | .tuple _ :: r,xs,bs,h,q=>by cases h
 | .dict _ :: r,xs,bs,h,q=>by cases h
noncomputable def CQ:Prm:=Prm.one (fun K x=>Hc K [x]) (fun x=>match x with | .list ds=>(gP ds).map fun bs=>.dat (.bool (bs.all id)) | _=>none) fun K F H x u pr Q hf hx hd q=>by
 split at hf
 ·obtain ⟨bs,e,rfl⟩:=Jd.mp hf;obtain ⟨a,us,rfl,s1,z1,d1⟩:=nG hx;rw [qt e d1] at s1;exact ⟨a,bs,rfl,s1,q _ H (aw.rf H) rfl⟩
 ·cases hf
theorem qB {X:Cx} (hc:X.calm=true):aQ X (.builtin "all") (CQ.r X.K):=jz (sV hc) fun _ _ _ h=>h
theorem rl {K:Fg} {F:Addr->Prop} {H:Hp} {k:PyData}:∀ {ds:List (PyData×PyData)} {xs:List (PyData×V×V)},DmP K F H ds xs->(∀ d,getD ds k=some d->∃ v,oM xs k=some v/\Dm K F H d v)/\(getD ds k=none->oM xs k=none)
 | [],xs,h=>by
  rw [show xs=[] from h];exact ⟨fun d e=>(nomatch e),fun _=>rfl⟩
 | (k',d') :: ds,xs,h=>by
  obtain ⟨j,v,r,rfl,e,_,h1,h2⟩:=h;have ih:=rl (k:=k) h2;unfold getD oM at ih ⊢;rw [List.find?_cons,List.find?_cons];cases PyData.eqv k' k with
  | true=>exact ⟨fun d e=>(by cases e;exact ⟨v,rfl,h1⟩),fun e=>(nomatch e)⟩
  | false=>exact ih
mutual
theorem j3:∀ (d:PyData),hkB d=true->noD d=true
 | .int _,_=>rfl
 | .str _,_=>rfl
 | .tuple ds,h=>by rw [noD];exact rN ds h
 | .none,h=>by cases h
 | .bool _,h=>by cases h
 | .list _,h=>by cases h
 | .dict _,h=>by cases h
theorem rN:∀ (ds:List PyData),tf ds=true->cj ds=true
 | [],_=>rfl
 | d :: ds,h=>by
  simp only [tf,Jx] at h;rw [cj,j3 d h.1,rN ds h.2];rfl
end
theorem jo {d:PyData}:hk6 d=true↔hkB d=true/\d.depth<=6:=by simp [hk6]
theorem xK {K:Fg} {F:Addr->Prop} {H:Hp} {d:PyData} {v:V} (h:Vw K F H d v) (hk:hk6 d=true):kyB d=true:=by
 rw [jo] at hk;exact ao.mpr ⟨hk.1,h.lay (j3 d hk.1),hk.2⟩
theorem yH {X:Cx} {pins:List (Addr×Obj)} {σ:St} {s:Shared} {F:Addr->Prop} {H:Hp} (I:Inv X pins σ H s):∀ {ds:List (PyData×PyData)} {xs:List (PyData×V×V)},DmP X.K F H ds xs->i4 s.heap xs
 | [],xs,h=>by rw [show xs=[] from h];intro x hx;cases hx
 | (k,d) :: ds,xs,h=>by
  obtain ⟨j,v,r,rfl,hk,h0,_,h2⟩:=h;intro x hx;rcases Jb.mp hx with rfl | hx
  ·exact ⟨xK h0.vw hk,fun u ru=>h0.reads I (j3 _ (jo.mp hk).1) ru⟩
  ·exact yH I h2 x hx
noncomputable def EC (K:Fg) (H:Hp) (x y:V) (k:PyData) (a:Addr) (ep:Nat) (xs:List (PyData×V×V)):Prop:=∃ (F:Addr->Prop) (kvs:List (PyData×PyData)),x=.ref a/\H a=some (.dD ep xs)/\DmP K F H kvs xs/\Vw K F H k y/\hk6 k=true
noncomputable def AZ:PyData->PyData->Option PR
 | .dict kvs,k=>if hk6 k=true then (getD kvs k).map .dat else none
 | _,_=>none
noncomputable def zS (K:Fg):R2:=fun x y H Q=>∃ k a ep xs v,EC K H x y k a ep xs/\oM xs k=some v/\Q v H
noncomputable def iW:Prm:=Prm.two zS AZ fun K F H x y u v pr Q hf hx hy hd q=>by
 unfold AZ at hf;split at hf
 ·split at hf
  ·rename_i kvs _ hk;obtain ⟨d,e,rfl⟩:=Jd.mp hf;obtain ⟨a,rfl,ep,xs,ea,_,r⟩:=hx;obtain ⟨w,ew,dw⟩:=(rl r).1 d e;exact ⟨_,a,ep,xs,w,⟨F,_,rfl,ea,r,hy,hk⟩,ew,q _ H (aw.rf H) dw⟩
  ·cases hf
 ·cases hf
noncomputable def Gg (neg:Bool) (K:Fg):R2:=fun y x H Q=>∃ k a ep xs,EC K H x y k a ep xs/\Q (.bl (if neg then !(oM xs k).isSome else (oM xs k).isSome)) H
noncomputable def ID (neg:Bool):Prm:=Prm.two (Gg neg) (fun k d=>match d with
  | .dict kvs=>if hk6 k=true then some (.dat (.bool (if neg then !(getD kvs k).isSome else (getD kvs k).isSome))) else none
  | _=>none) fun K F H y x v u pr Q hf hy hx hd q=>by
 split at hf
 ·rename_i kvs;split at hf
  ·rename_i hk;cases hf;obtain ⟨a,rfl,ep,xs,ea,_,r⟩:=hx;have g:=rl (k:=y) r;refine ⟨_,a,ep,xs,⟨F,kvs,rfl,ea,r,hy,hk⟩,q _ H (aw.rf H) ?_⟩;have e:(oM xs y).isSome=(getD kvs y).isSome:=by
    cases z:getD kvs y with
    | none=>rw [g.2 z];rfl
    | some d=>obtain ⟨w,ew,_⟩:=g.1 d z;rw [ew];rfl
   rw [e];cases neg <;> rfl
  ·cases hf
 ·cases hf
section
variable {X:Cx} {a b o i e value:Expr} {pos pos':Pos} {ta tb td ty tv:TE}
theorem jK (hu:X.A.units+64 < cLine) (ho:JE X a ta) (hi:JE X b tb) (hs:He b):JE X (.Subscript a b pos) (tOp (fun x y=>iW.r X.K [x,y]) ta tb):=⟨by
 intro pins s σ H Q I h;refine xa PySem.F.slot_dict_getitem.lookup hs (thn (ho.h pins s σ H _ I h) fun u s1 ⟨x,H1,I1,rx,q1⟩=>thn (hi.h pins s1 σ H1 _ I1 q1) fun iv s2 ⟨y,H2,I2,ry,k,p,ep,xs,v,⟨F,kvs,ex,ea,r,hk,hk6'⟩,gv,q2⟩=>?_);subst ex;obtain rfl:u=Value.ref p:=rx;obtain ⟨as,rk⟩:=hk.reads I2 (j3 _ (jo.mp hk6').1) ry
 exact ⟨(lS I2 ea).1,Bg (by omega) I2 ea (yH I2 r) rk (xK hk hk6') gv fun t w' rw'=>⟨v,H2,I2.tok t,rw',q2⟩⟩⟩
theorem Cy:JE X (.Dict [] [] pos) v8:=⟨tP⟩
theorem Cc {keys:List (Option Expr)} {values:List Expr} {trs:List (TE×TE)} (h:JP X pos keys values trs) (hall:keys.all (·.isSome)=true) (hl:keys.length=values.length) (h0:keys≠[]) (h15:keys.length<=15):JE X (.Dict keys values pos) (qO trs):=⟨tS h.h hall hl h0 h15⟩
end
theorem wx {K:Fg} {F:Addr->Prop} {H:Hp}:∀ {ds:List (PyData×PyData)} {xs:List (PyData×V×V)},DmP K F H ds xs->xs.length=ds.length
 | [],xs,h=>by rw [show xs=[] from h];rfl
 | (k,d) :: ds,xs,h=>by obtain ⟨j,v,r,rfl,_,_,_,h2⟩:=h;rw [Jf,Jf,wx h2]
theorem DM {K:Fg} {F:Addr->Prop} {H:Hp} {d:PyData} {v:V} (h:Vw K F H d v) (hk:hk6 d=true):Dm K F H d v:=by
 cases d with
 | list ds=>cases hk
 | dict ds=>cases hk
 | _=>exact h
noncomputable def lB:uq where
 r:=fun K o y x H Q=>∃ k a ep xs,EC K H o y k a ep xs/\xs.length < sizeLine/\∀ ep',Q (upd H a (.dD ep' (mD xs k y x)))
 f:=fun d k x=>match d with
  | .dict kvs=>if hk6 k=true/\kvs.length < sizeLine then some (.dict (putD kvs k x)) else none
  | _=>none
 ok:=fun K F H d a k x vk vx d' Q hf ha ht hk hx q=>by
  split at hf
  ·split at hf
   ·rename_i kvs h;cases hf;obtain ⟨ep,xs,ea,z,r⟩:=ht;have hlen:xs.length < sizeLine:=by rw [wx r];exact h.2
    refine ⟨k,a,ep,xs,⟨F,kvs,rfl,ea,r,hk,h.1⟩,hlen,fun ep'=>q _ (fun b o n e=>by rw [ae n];exact e) ?_⟩;have p:Pr F H (upd H a (.dD ep' (mD xs k vk vx))):=fun b o e n=>by
     by_cases y:b=a
     ·subst y;rcases n with n | n
      ·exact absurd ha n
      ·rw [ea] at e;cases e;cases n
     ·rw [ae y];exact e
    exact ⟨_,_,ag,by have:=ng (xs:=xs) (k:=k) (j:=vk) (v:=vx);omega,(vO r h.1 (DM hk h.1) hx).pr p fun _ z=>z⟩
   ·cases hf
  ·cases hf
noncomputable def EJ (K:Fg) (td ty tv:TE):TS:=fun D σ H=>tv σ H fun v H1=>td σ H1 fun x H2=>ty σ H2 fun y H3=>lB.r K x y v H3 (D.nx σ)
theorem pM {X:Cx} {o i value:Expr} {pos pos':Pos} {td ty tv:TE} (hu:X.A.units+64 < cLine) (ho:JE X o td) (hi:JE X i ty) (hv:JE X value tv) (hs:swapsWith value (some (.Subscript o i pos')) pos.line X.env=pure false) :
  JS X (.Assign [.Subscript o i pos'] value pos) (EJ X.K td ty tv):=⟨by
 intro pins s σ H D I h;refine wpAny_Assign_Subscript (thn (hv.h pins s σ H _ I h) fun r s1 ⟨v,H1,I1,rv,q1⟩=>thn (ho.h pins s1 σ H1 _ I1 q1) fun u s2 ⟨x,H2,I2,rx,q2⟩=>thn (hi.h pins s2 σ H2 _ I2 q2) fun iv s3 ⟨y,H3,I3,ry,k,p,ep,xs,⟨F,kvs,ex,ea,r,hk,hk6'⟩,hl,q3⟩=>?_) hs;subst ex;obtain rfl:u=Value.ref p:=rx;obtain ⟨as,rk⟩:=hk.reads I3 (j3 _ (jo.mp hk6').1) ry
 exact D7 (by omega) I3 ea (yH I3 r) rk (xK hk hk6') ry rv hl fun ep' s4 I4=>⟨σ,_,I4,q3 ep'⟩⟩
theorem sR {F:Addr->Prop} {H:Hp} {a:Addr} {o o':HO} (ha:F a) (e:H a=some o') (w:Wr o'=true):Pr F H (upd H a o):=fun b u q n=>by
 by_cases y:b=a
 ·subst y;rcases n with n | n
  ·exact absurd ha n
  ·rw [e] at q;cases q;rw [n] at w;cases w
 ·rw [ae y];exact q
theorem DmL.set {K:Fg} {F:Addr->Prop} {H:Hp}:∀ {ds:List PyData} {xs:List V} {d:PyData} {v:V} (j:Nat),DmL K F H ds xs->Dm K F H d v->DmL K F H (ds.set j d) (xs.set j v)
 | [],xs,d,v,j,h,q=>by rw [show xs=[] from h];rfl
 | e :: ds,xs,d,v,0,h,q=>by obtain ⟨w,r,rfl,_,h2⟩:=h;exact ⟨v,r,rfl,q,h2⟩
 | e :: ds,xs,d,v,j+1,h,q=>by obtain ⟨w,r,rfl,h1,h2⟩:=h;exact ⟨w,_,rfl,h1,DmL.set j h2 q⟩
noncomputable def zt:uq where
 r:=fun _ o i x H Q=>Ad o i x H Q
 f:=fun d k x=>match d,k with
  | .list xs,.int i=>(ixN xs.length i).map fun j=>.list (xs.set j x)
  | _,_=>none
 ok:=fun K F H d a k x vk vx d' Q hf ha ht hk hx q=>by
  split at hf
  ·obtain ⟨j,e,rfl⟩:=Jd.mp hf;obtain ⟨xs,ea,z,r⟩:=ht;rw [vInt hk];refine ⟨a,xs,_,j,rfl,rfl,ea,by rw [r.len];exact e,q _ (fun b o n e=>by rw [ae n];exact e) ⟨_,ag,by rw [JB];exact z,(r.set j hx).pr (sR ha ea rfl) fun _ z=>z⟩⟩
  ·cases hf
theorem oN {K:Fg} {F:Addr->Prop} {H:Hp} {d:PyData} {a:Addr} (h:isL d=true) (t:Top K F H d a):tyV K "list" (.ref a) H:=by
 cases d with
 | list ds=>obtain ⟨xs,e,_⟩:=t;exact .inl ⟨rfl,xs,.inl (.inl e)⟩
 | _=>cases h
noncomputable def Cq:Mtr where
 T := "list"
 r:=fun _=>rq
 ty:=isL
 f:=fun d as=>match d,as with
  | .list xs,[(true,x)]=>if xs.length < sizeLine then some (.list (xs++[x]),.none) else none
  | _,_=>none
 yi:=fun K F H d a h t=>oN h t
 ok:=fun K F H d a as vs d' x Q hf ha ht hv q=>by
  split at hf
  ·split at hf
   ·rename_i hl;cases hf;obtain ⟨v,r,rfl,hv,rfl⟩:=hv;obtain ⟨xs,ea,z,rx⟩:=ht;refine ⟨a,xs,v,rfl,rfl,ea,by rw [rx.len];exact hl,q _ _ (fun b o n e=>by rw [ae n];exact e) ⟨_,ag,by rw [IH,rx.len];simp;omega,(rx.snoc hv).pr (sR ha ea rfl) fun _ z=>z⟩ rfl⟩
   ·cases hf
  ·cases hf
noncomputable def Ho:Mtr where
 T := "list"
 r:=fun _=>wo
 ty:=isL
 f:=fun d as=>match d,as with | .list xs,[]=>some (.list [],.none) | _,_=>none
 yi:=fun K F H d a h t=>oN h t
 ok:=fun K F H d a as vs d' x Q hf ha ht hv q=>by
  split at hf
  ·cases hf;obtain ⟨xs,ea,z,rx⟩:=ht;rw [show vs=[] from hv];exact ⟨a,xs,rfl,rfl,ea,q _ _ (fun b o n e=>by rw [ae n];exact e) ⟨_,ag,JZ _,rfl⟩ rfl⟩
  ·cases hf
noncomputable def strsOf:List PyData->Option (List Str)
 | []=>some []
 | .str x :: r=>match strsOf r with | some xs=>some (x :: xs) | none=>none
 | _ :: _=>none
theorem wH {K:Fg} {F:Addr->Prop} {H:Hp}:∀ {ds:List PyData} {xs:List V} {ss:List Str},strsOf ds=some ss->DmL K F H ds xs->xs=ss.map V.str/\∀ s∈ss,PyData.strOk s=true
 | [],xs,bs,h,q=>by cases h;exact ⟨q,fun s z=>by cases z⟩
 | .str b :: r,xs,bs,h,q=>by
  unfold strsOf at h;split at h
  ·rename_i bs' h';cases h;obtain ⟨v,vr,rfl,h1,h2⟩:=q;obtain ⟨i1,i2⟩:=wH h' h2;refine ⟨by rw [i1,show v=.str b from h1.1];rfl,fun s z=>?_⟩;rcases Jb.mp z with rfl | z
   ·exact h1.2.2
   ·exact i2 s z
  ·cases h
 | .none :: r,xs,bs,h,q=>by cases h
 | .int _ :: r,xs,bs,h,q=>by cases h
 | .bool _ :: r,xs,bs,h,q=>by cases h
 | .list _ :: r,xs,bs,h,q=>by cases h
 | .tuple _ :: r,xs,bs,h,q=>by cases h
 | .dict _ :: r,xs,bs,h,q=>by cases h
theorem ty_str {K:Fg} {F:Addr->Prop} {H:Hp} {d:PyData} {v:V} (h:isS d=true) (t:Vw K F H d v):tyV K "str" v H:=by
 cases d with
 | str x=>rw [(vStr t).1];rfl
 | _=>cases h
theorem vZ {K:Fg} {F:Addr->Prop} {H:Hp}:∀ {ns:List Int},DmL K F H (ns.map .int) (ns.map .int)
 | []=>rfl
 | n :: ns=>⟨_,_,rfl,rfl,vZ⟩
theorem Cm {f:Fn} {K:Fg} {H:Hp} {a:Addr} {ns:List Int} (hm:f.ms=[.dat]) (hl:ns.length<=63) (hS:SqL K H a (ns.map V.int)) (hF:f.F [.list (ns.map .int)]=some (.dat (.bool true),[])):bH f K [.ref a] H (fun v _=>v=.bl true) fun _ _ _=>False:=by
 refine ⟨fun _=>False,[.list (ns.map .int)],[],.dat (.bool true),[],hF,?_,fun _ h=>absurd h id,fun v' H' _ r=>r.1⟩;rw [hm];refine ⟨⟨a,ns.map .int,rfl,?_,?_,vZ⟩,rfl⟩
 ·rcases hS with hS | hS
  ·exact .inl ⟨id,hS⟩
  ·exact .inr hS
 ·rw [II];exact Jt hl (by decide)
end L2
end
section
namespace L2
open PySem PySem.Spec PyProof.Rows
section
variable {X:Cx} {pos:Pos} {s:Stmt}
theorem wg:JS X s vQ:=⟨fun _ _ _ _ _ _ h=>absurd h id⟩
end
end L2
namespace L2
open PySem PySem.Spec PyProof.Rows
end L2
end
section
namespace L2
open PySem PySem.Spec PyProof.Rows
noncomputable def oD (d:PyData):Bool:=noD d&&decide (d.depth<=32)
noncomputable def oC (ds:List PyData) (x:PyData):Bool:=ds.any fun d=>PyData.eqv d x
noncomputable def ngB (neg b:Bool):Bool:=if neg then !b else b
noncomputable def Il (neg:Bool) (K:Fg):R2:=rOr (fun x y H Q=>∃ i j,x=.str i/\y=.str j/\Q (.bl (ngB neg (!(Builtin.Str.occurrences j i 0 j.length 1).isEmpty))) H)
 fun x y H Q=>∃ (p:Addr) (xs:List V) (F:Addr->Prop) (d:PyData) (ds:List PyData),y=.ref p/\(SqL K H p xs\/SqT K H p xs)/\Vw K F H d x/\DmL K F H ds xs/\oD d=true/\cj ds=true/\Q (.bl (ngB neg (oC ds d))) H
noncomputable def inD (neg:Bool):PyData->PyData->Option PR
 | .str i,.str j=>some (.dat (.bool (ngB neg (!(Builtin.Str.occurrences j i 0 j.length 1).isEmpty))))
 | x,.list ds=>if oD x=true/\cj ds=true then some (.dat (.bool (ngB neg (oC ds x)))) else none
 | x,.tuple ds=>if oD x=true/\cj ds=true then some (.dat (.bool (ngB neg (oC ds x)))) else none
 | _,_=>none
noncomputable def GP (neg:Bool):Prm:=Prm.two (Il neg) (inD neg) fun K F H x y u v pr Q hf hx hy hd q=>by
 unfold inD at hf;split at hf
 ·cases hf;exact .inl ⟨_,_,(vStr hx).1,(vStr hy).1,q _ H (aw.rf H) rfl⟩
 ·split at hf
  ·rename_i h;cases hf;obtain ⟨a,us,rfl,s1,z1,d1⟩:=nG hy;exact .inr ⟨a,us,F,_,_,rfl,.inl s1,hx,d1,h.1,h.2,q _ H (aw.rf H) rfl⟩
  ·cases hf
 ·split at hf
  ·rename_i h;cases hf;obtain ⟨a,us,rfl,s1,z1,d1⟩:=uV hy;exact .inr ⟨a,us,F,_,_,rfl,.inr s1,hx,d1,h.1,h.2,q _ H (aw.rf H) rfl⟩
  ·cases hf
 ·cases hf
noncomputable abbrev inP:Prm:=GP false
noncomputable abbrev gN:Prm:=GP true
open Classical in
noncomputable def eqR (h:Heap) (x:PyData) (u:Value):Bool:=if q:∃ d as,Reads h u d as then PyData.eqv (Classical.choose q) x else false
theorem wm {h:Heap} {x d:PyData} {u:Value} {as:List Addr} (r:Reads h u d as):eqR h x u=PyData.eqv d x:=by
 have q:∃ d as,Reads h u d as:=⟨d,as,r⟩;unfold eqR;rw [dif_pos q];obtain ⟨bs,r2⟩:=Classical.choose_spec q;rw [(PySem.Reads.unique r _ _ r2).1]
section
variable {X:Cx} {pins:List (Addr×Obj)} {σ:St} {s:Shared} {H:Hp} {F:Addr->Prop}
theorem fU (I:Inv X pins σ H s) (x:PyData):∀ {ds:List PyData} {xs:List V} {us:List Value},DmL X.K F H ds xs->cj ds=true->Vals xs us->us.any (eqR s.heap x)=oC ds x
 | [],xs,us,h,_,r=>by rw [show xs=[] from h] at r;cases r;rfl
 | d :: ds,xs,us,h,n,r=>by
  obtain ⟨v,t,rfl,h1,h2⟩:=h;have n':noD d=true/\cj ds=true:=by simpa [cj] using n
  cases r with
  | cons r1 r2 =>
   obtain ⟨as,ra⟩:=h1.reads I n'.1 r1;rw [Lm,wm ra,fU I x h2 n'.2 r2];rfl
theorem gf (I:Inv X pins σ H s) {A:Around} {x:PyData} {b:Value} {bs:List Addr} (rb:Reads s.heap b x bs) (hb:x.canLay0=true) (hu:A.units+x.depth < cLine):∀ {ds:List PyData} {xs:List V} {us:List Value},DmL X.K F H ds xs->cj ds=true->Vals xs us->∀ u∈us,SeqAt.EqAt A s u b (eqR s.heap x u)
 | [],xs,us,h,_,r=>by rw [show xs=[] from h] at r;cases r;intro u hu;cases hu
 | d :: ds,xs,us,h,n,r=>by
  obtain ⟨v,t,rfl,h1,h2⟩:=h;have n':noD d=true/\cj ds=true:=by simpa [cj] using n
  cases r with
  | cons r1 r2 =>
   intro u hm;rcases Jb.mp hm with rfl | hm
   ·obtain ⟨as,ra⟩:=h1.reads I n'.1 r1;rw [wm ra];exact SeqAt.eqAt_reads d x A s _ b as bs ra rb (h1.lay n'.1) hb (by omega)
   ·exact gf I rb hb hu h2 n'.2 r2 u hm
end
theorem GU {X:Cx} (hu:X.A.units+64 < cLine):OpR X (compareOp .In) (fun x y=>inP.r X.K [x,y]):=by
 refine orR BE ?_;intro pins s σ H x y v u Q I rx ry h;obtain ⟨p,xs,F,d,ds,rfl,hq,hd,hs,o1,o2,q⟩:=h;have o1':noD d=true/\d.depth<=32:=by simpa [oD] using o1
 cases ry;obtain ⟨bs,rb⟩:=hd.reads I o1'.1 rx;rcases hq with hq | hq
 ·obtain ⟨its,r,pl,hz⟩:=I.list hq;refine SeqAt.in_listAt (eqR s.heap d) pl.isList (fun w hw=>gf I rb (hd.lay o1'.1) (by have:X.A.in1.units=X.A.units+1:=rfl;omega) hs o2 r w (by simpa using hw)) ⟨.bl _,H,I,rfl,?_⟩;rw [show its.toArray.any (eqR s.heap d)=its.any (eqR s.heap d) by simp,fU I d hs o2 r];exact q
 ·obtain ⟨its,r,pl,hz⟩:=I.tuple hq;refine SeqAt.in_tupleAt (eqR s.heap d) pl (fun w hw=>gf I rb (hd.lay o1'.1) (by have:X.A.in1.units=X.A.units+1:=rfl;omega) hs o2 r w (by simpa using hw)) ⟨.bl _,H,I,rfl,?_⟩;rw [show its.toArray.any (eqR s.heap d)=its.any (eqR s.heap d) by simp,fU I d hs o2 r];exact q
theorem dH {X:Cx} (hu:X.A.units+64 < cLine):OpR X (compareOp .NotIn) (fun x y=>gN.r X.K [x,y]):=by
 refine orR qy ?_;intro pins s σ H x y v u Q I rx ry h;obtain ⟨p,xs,F,d,ds,rfl,hq,hd,hs,o1,o2,q⟩:=h;have o1':noD d=true/\d.depth<=32:=by simpa [oD] using o1
 cases ry;obtain ⟨bs,rb⟩:=hd.reads I o1'.1 rx;rcases hq with hq | hq
 ·obtain ⟨its,r,pl,hz⟩:=I.list hq;refine SeqAt.notIn_listAt (eqR s.heap d) pl.isList (fun w hw=>gf I rb (hd.lay o1'.1) (by have:X.A.in1.units=X.A.units+1:=rfl;omega) hs o2 r w (by simpa using hw)) ⟨.bl _,H,I,rfl,?_⟩;rw [show its.toArray.any (eqR s.heap d)=its.any (eqR s.heap d) by simp,fU I d hs o2 r];exact q
 ·obtain ⟨its,r,pl,hz⟩:=I.tuple hq;refine SeqAt.notIn_tupleAt (eqR s.heap d) pl (fun w hw=>gf I rb (hd.lay o1'.1) (by have:X.A.in1.units=X.A.units+1:=rfl;omega) hs o2 r w (by simpa using hw)) ⟨.bl _,H,I,rfl,?_⟩;rw [show its.toArray.any (eqR s.heap d)=its.any (eqR s.heap d) by simp,fU I d hs o2 r];exact q
end L2
end
section
namespace L2
open PySem PySem.Spec PyProof.Rows
noncomputable def fo (ww:World):Bool:=ww.params.followText "set-order"
structure CM (ww:World) (tb:SetTable) (n:Nat):Prop where
 fit:tb.fits n=true
 led:tb.led=!fo ww
 pln:n≠0->tb.plain=false
theorem i8 (tb:SetTable) (n:Nat):(tb.orStandIn n).led=tb.led:=by
 unfold SetTable.orStandIn;split <;> rfl
theorem xO (tb:SetTable) (es:Array (Int×Value)) (hs:Int) (x:Value):(layNew tb es hs x).2.1.led=tb.led:=by
 unfold layNew;cases q:tb.freeSlot hs with
 | none=>rfl
 | some p =>
  obtain ⟨sl,wd⟩:=p;exact i8 _ _
theorem qi (tb:SetTable) (es:Array (Int×Value)) (k:Nat):(relayAll tb es k).2.1.led=tb.led/\(tb.plain=false->(relayAll tb es k).2.1.plain=false):=by
 unfold relayAll;cases q:tb.relaid (es.map (·.1)) k with
 | none=>exact ⟨rfl,fun _=>rfl⟩
 | some p =>
  obtain ⟨t2,ord⟩:=p;dsimp only;split
  ·unfold SetTable.relaid SetTable.laid at q;cases ho:SetTable.layClean (SetTable.sizeAbove k - 1) (es.map (·.1)) with
   | none=>rw [ho] at q;cases q
   | some ow =>
    rw [ho] at q;simp only [Option.bind_eq_bind,Option.bind_some,Option.pure_def,Option.some.injEq,Prod.mk.injEq] at q;obtain ⟨rfl,_⟩:=q;exact ⟨rfl,fun z=>z⟩
  ·exact ⟨rfl,fun _=>rfl⟩
noncomputable def b4 (pr:Program) (ww:World) (h:Heap) (a:Addr) (ss:List Str):Prop :=
 ∃ ob es ep tb,h.get? a=some ob/\ob.ExactSet/\ob.data=.set es ep tb/\ElemsOf (strKind pr ww) es.toList/\(∃ zs,StrsAre (es.toList.map (·.2)) zs/\zs.Perm ss)/\es.size < scanBound/\CM ww tb es.size
noncomputable def gQ (ss:List Str) (x:Str):List Str:=if x∈ss then ss else ss++[x]
theorem mT {x:Str}:∀ {es:List (Int×Value)} {zs:List Str},StrsAre (es.map (·.2)) zs->((∃ e∈es,Value.isStrOf x e.2=true)↔x∈zs)
 | [],[],_=>by simp
 | e :: es,_,h=>by
  obtain ⟨hs,v⟩:=e;rw [List.map_cons] at h;cases h with
  | cons y tk h =>
   have ih:=mT (x:=x) h;have hd:Value.isStrOf x (.str y tk)=true↔x=y:=by
    constructor
    ·intro q;obtain ⟨_,q⟩:=Value.isStrOf_shape q;injection q with q _;exact q.symm
    ·rintro rfl;simp [Value.isStrOf]
   simp only [Jb,exists_eq_or_imp];rw [ih];exact or_congr hd Iff.rfl
theorem bB:∀ {us vs:List Value},us.Perm vs->∀ {zs:List Str},StrsAre vs zs->∃ ws,StrsAre us ws/\ws.Perm zs
 | _,_,.nil,zs,h=>by cases h;exact ⟨[],.nil,.nil⟩
 | _,_,.cons v p,zs,h=>by
  cases h with
  | cons y tk h =>
   obtain ⟨ws,a,b⟩:=bB p h;exact ⟨y :: ws,.cons y tk a,.cons y b⟩
 | _,_,.swap v u l,zs,h=>by
  cases h with
  | cons y tk h =>
   cases h with
   | cons z tk' h=>exact ⟨_,.cons z tk' (.cons y tk h),.swap _ _ _⟩
 | _,_,.trans p q,zs,h=>by
  obtain ⟨ws,a,b⟩:=bB q h;obtain ⟨vs,c,d⟩:=bB p a;exact ⟨vs,c,d.trans b⟩
theorem strs_snoc {x:Str} {tk:Tok}:∀ {us:List Value} {zs:List Str},StrsAre us zs->StrsAre (us++[.str x tk]) (zs++[x])
 | _,_,.nil=>.cons x tk .nil
 | _,_,.cons y t h=>.cons y t (strs_snoc h)
theorem bj:∀ {us:List Value} {zs:List Str},StrsAre us zs->us.length=zs.length
 | _,_,.nil=>rfl
 | _,_,.cons y t h=>by rw [Jf,Jf,bj h]
section
variable {pr:Program} {ww:World} {AA:Around} {EE:Value->Shared->Prop} {st:Shared}
theorem b4.size {h:Heap} {a:Addr} {ss:List Str} (z:b4 pr ww h a ss):∃ ob es ep tb,h.get? a=some ob/\ob.data=.set es ep tb/\es.size=ss.length:=by
 obtain ⟨ob,es,ep,tb,h1,_,h2,_,⟨zs,h3,h4⟩,_⟩:=z;refine ⟨ob,es,ep,tb,h1,h2,?_⟩;have:=bj h3;rw [II,JJ] at this;rw [this,h4.length_eq]
theorem qS {a:Addr} {ob:Obj} {es es':Array (Int×Value)} {ep:Nat} {tb tb':SetTable} {ss:List Str} {h:Heap} (ho:h.get? a=some ob) (hx:ob.ExactSet) (hd:ob.data=.set es ep tb)
  (he:ElemsOf (strKind pr ww) es'.toList) (hz:∃ zs,StrsAre (es'.toList.map (·.2)) zs/\zs.Perm ss) (hb:es'.size < scanBound) (ht:CM ww tb' es'.size) :
  (h.update a (Obj.putSet es' tb')).get? a=some { ob with data:=.set es' (ep+1) tb' }/\b4 pr ww (h.update a (Obj.putSet es' tb')) a ss:=by
 have hg:(h.update a (Obj.putSet es' tb')).get? a=some { ob with data:=.set es' (ep+1) tb' }:=by
  have q:=Ka (Obj.putSet es' tb') ho (by rw [putSet_of es' tb' hd];rfl);rw [putSet_of es' tb' hd] at q;exact q
 exact ⟨hg,_,es',ep+1,tb',hg,hx,rfl,he,hz,hb,ht⟩
theorem wG {gg:Bool->Sem Unit} (hg:∀ (b:Bool) (s1:Shared) (Q':Unit->Shared->Prop),Q' () s1->wpAny (model pr ww) AA (gg b) Q' EE s1)
  {a:Addr} {ob:Obj} {es e1:Array (Int×Value)} {ep:Nat} {tb t2:SetTable} {ss:List Str} {wd:Bool} {RR:Option Bool->Shared->Prop} (ho:st.heap.get? a=some ob) (hx:ob.ExactSet) (hd:ob.data=.set es ep tb)
  (he:ElemsOf (strKind pr ww) e1.toList) (hz:∃ zs,StrsAre (e1.toList.map (·.2)) zs/\zs.Perm ss) (hb:e1.size < scanBound) (ht:CM ww t2 e1.size) (hp:t2.plain=false)
  (h:∀ h',Heap.SameBut a st.heap h'->b4 pr ww h' a ss->RR (some true) { st with heap:=h' }) :
  wpAny (model pr ww) AA (do
    storeSet a e1 t2
    if (!wd&&t2.tooFull)=true then do
      gg (relayAll t2 e1 (SetTable.grown e1.size)).2.2
      storeSet a (relayAll t2 e1 (SetTable.grown e1.size)).1 (relayAll t2 e1 (SetTable.grown e1.size)).2.1
      pure (some true)
     else pure (some true)) RR EE st:=by
 refine IF (wpAny_storeSet_of ho hd ?_ (fits_of_scanBound hb));obtain ⟨ho1,hS1⟩:=qS (pr:=pr) (ww:=ww) ho hx hd he hz hb ht;have sb:=K3 st.heap a (Obj.putSet e1 t2);split
 ·have pm:=relayAll_perm t2 e1 (SetTable.grown e1.size);have ft:=relayAll_fits t2 e1 (SetTable.grown e1.size);have ld:=qi t2 e1 (SetTable.grown e1.size);generalize relayAll t2 e1 (SetTable.grown e1.size)=Y at pm ft ld ⊢;obtain ⟨e2,t3,gv⟩:=Y;dsimp only at pm ft ld ⊢;have sz:e2.size=e1.size:=by rw [<- JJ,pm.length_eq,JJ]
  have hb2:e2.size < scanBound:=by rw [sz];exact hb
  have hz2:∃ zs,StrsAre (e2.toList.map (·.2)) zs/\zs.Perm ss:=by
   obtain ⟨zs,z1,z2⟩:=hz;obtain ⟨ws,w1,w2⟩:=bB (pm.map (·.2)) z1;exact ⟨ws,w1,w2.trans z2⟩
  refine IF (hg _ _ _ ?_);refine IF (wpAny_storeSet_of ho1 rfl ?_ (fits_of_scanBound hb2));obtain ⟨_,hS2⟩:=qS (pr:=pr) (ww:=ww) (tb':=t3) ho1 hx rfl (he.perm pm) hz2 hb2 ⟨ft,ld.1.trans ht.led,fun _=>ld.2 hp⟩;exact IJ (h _ (sb.trans (K3 _ a _)) hS2)
 ·exact IJ (h _ sb hS1)
theorem Dp {a:Addr} {ss:List Str} {x:Str} {tk:Tok} {Q:Bool->Shared->Prop} (hS:b4 pr ww st.heap a ss) (room:ss.length+1 < scanBound)
  (h:∀ b h',Heap.SameBut a st.heap h'->b4 pr ww h' a (gQ ss x)->Q b { st with heap:=h' }) :
  wpAny (model pr ww) AA (setAddHashed a (.str x tk) (hashStr ww x)) Q EE st:=by
 obtain ⟨ob,es,ep,tb,ho,hx,hd,he,⟨zs,hz1,hz2⟩,hb,ht⟩:=hS;have key:(strKind pr ww).is x (.str x tk)=true:=by show Value.isStrOf x (.str x tk)=true;simp [Value.isStrOf]
 have sc:(Value.str x tk).scannable=true:=rfl;have sz:es.size=ss.length:=by
  have:=bj hz1;rw [II,JJ] at this;rw [this,hz2.length_eq]
 unfold setAddHashed setAddHashedIn;refine JX (IF (Le ho hd ht.fit ?_));dsimp only;rw [byScan_of sc hb he];simp only [↓reduceIte];unfold setAddByScan;refine IF ?_;refine IF (Ke ?_);refine IF (wpAny_setScan_of (knd:=strKind pr ww) (k:=x) key ho hd ht.fit he ?_);have mem:(∃ e∈es.toList,Value.isStrOf x e.2=true)↔x∈ss:=(mT hz1).trans hz2.mem_iff;cases hr:List.findIdx? (fun e:Int×Value=>(strKind pr ww).is x e.2) es.toList with
 | some j =>
  dsimp only;obtain ⟨hj,hpj,_⟩:=List.findIdx?_eq_some_iff_getElem.mp hr;have hin:x∈ss:=mem.mp ⟨es.toList[j],LR hj,hpj⟩;refine IJ (IJ ?_);have q:=h false st.heap (Heap.SameBut.refl a st.heap) ⟨ob,es,ep,tb,ho,hx,hd,he,⟨zs,hz1,by unfold gQ;rw [IV hin];exact hz2⟩,hb,ht⟩;cases st;exact q
 | none =>
  dsimp only;have hin:x ∉ ss:=fun hh=>by
   obtain ⟨e,hm,hp⟩:=mem.mpr hh;have:=List.findIdx?_eq_none_iff.mp hr e hm;rw [show (strKind pr ww).is x e.2=true from hp] at this;cases this
  have gw:∀ (b:Bool) (s1:Shared) (Q':Unit->Shared->Prop),Q' () s1->wpAny (model pr ww) AA (match b with | true=>rule "set.scan.the-table-gave-way" | false=>pure ()) Q' EE s1 :=
   fun b s1 Q' hq=>by cases b <;> first | exact IJ hq | exact Ke hq
  have pm:=layNew_perm tb es (hashStr ww x) (.str x tk);have ft:=layNew_fits tb es (hashStr ww x) (.str x tk);have ld:=xO tb es (hashStr ww x) (.str x tk);have hkk:(strKind pr ww).hash x=hashStr ww x:=rfl;generalize layNew tb es (hashStr ww x) (.str x tk)=Y at pm ft ld ⊢;obtain ⟨e1,t1,wd,gv⟩:=Y;dsimp only at pm ft ld ⊢;rw [LK] at pm;have he1:ElemsOf (strKind pr ww) e1.toList:=(he.push key sc).perm pm;have sz1:e1.size=ss.length+1:=by rw [<- JJ,pm.length_eq,IH,JJ,sz];rfl
  have hz':∃ zs,StrsAre (e1.toList.map (·.2)) zs/\zs.Perm (gQ ss x):=by
   have p2:=pm.map (·.2);rw [Ju] at p2;obtain ⟨ws,w1,w2⟩:=bB p2 (strs_snoc (x:=x) (tk:=tk) hz1);refine ⟨ws,w1,w2.trans ?_⟩;unfold gQ;rw [IU hin];exact hz2.append_right _
  have hb1:e1.size < scanBound:=by rw [sz1];exact room
  refine IF (gw _ _ _ ?_);split
  ·refine IF ?_;rw [hashByValue_scannable 8 sc];refine IJ ?_;refine wG (gg:=fun b=>match b with | true=>rule "set.scan.the-table-gave-way" | false=>pure ()) gw ho hx hd he1 hz' hb1 (t2:={ t1 with plain:=false }) ⟨SetTable.fits_plain_off ft,ld.trans ht.led,fun _=>rfl⟩ rfl ?_;intro h' sb hS';dsimp only;exact IJ (h _ h' sb hS')
  ·rename_i npl;have npl:t1.plain=false:=by simpa using npl
   refine IF (IJ ?_);simp only [↓reduceIte];refine wG (gg:=fun b=>match b with | true=>rule "set.scan.the-table-gave-way" | false=>pure ()) gw ho hx hd he1 hz' hb1 (t2:=t1) ⟨ft,ld.trans ht.led,fun _=>npl⟩ npl ?_;intro h' sb hS';dsimp only;exact IJ (h _ h' sb hS')
end
end L2
end
section
namespace L2
open PySem PySem.Spec PyProof.Rows
noncomputable def t7 (val:Nat->Str) (i:Nat):List Str:=((List.range i).map val).foldl gQ []
theorem jB (val:Nat->Str) (i:Nat):t7 val (i+1)=gQ (t7 val i) (val i):=by
 unfold t7;rw [List.range_succ,Ju,List.foldl_append];rfl
theorem l8 (val:Nat->Str):∀ i,(t7 val i).length<=i
 | 0=>IY _
 | i+1=>by
  have ih:=l8 val i;rw [jB];unfold gQ;split
  ·omega
  ·rw [IH];show _+1<=_;omega
section
variable {pr:Program} {ww:World} {AA:Around} {RR:Result->Shared->Prop} {IT:Addr} {fp wr:List Addr} {GG:Array GenState->Array GenState->Prop} {n:Nat} {PP:Nat->Value->Prop} {SS:Nat->Shared->Prop}
theorem b4.at {h h':Heap} {a:Addr} {ss:List Str} (z:b4 pr ww h a ss) (k:∀ o,h.get? a=some o->h'.get? a=some o):b4 pr ww h' a ss:=by
 obtain ⟨ob,es,ep,tb,ho,r⟩:=z;exact ⟨ob,es,ep,tb,k _ ho,r⟩
theorem Dw (W:WalksS pr ww AA.in1 IT fp wr GG n PP SS) (a:Addr) (ha:a ∉ fp) (val:Nat->Str) (hv:∀ i v,PP i v->∃ t,v=.str (val i) t) (hb:n+1 < scanBound) :
  ∀ (k i:Nat) (s:Shared),n - i=k->i<=n->SS i s->b4 pr ww s.heap a (t7 val i) ->
   (∀ s',Moved (a :: wr) GG s s'->b4 pr ww s'.heap a (t7 val n)->RR (.ok (.ret .none)) s') ->
   codeAny (model pr ww) AA (.builtin "set.update.loop" ⟨[.ref a,.ref IT],[]⟩) RR s:=by
 have haw:a ∉ wr:=fun z=>ha (W.sub _ z);have hsb:∀ b∈wr,b∈a :: wr:=fun b z=>IZ _ z;intro k;induction k with
 | zero =>
  intro i s hk hi hst hS hR;obtain rfl:i=n:=by omega
  refine KJ F.entry_set_update_loop ?_;rw [KC F.plain_set_update_loop _];show wpAny _ AA.in1 (pyNext (.ref IT)>>=_) _ _ s;refine IF (W.done s _ _ hst fun s' hm=>?_);exact IJ (hR s' (hm.mono hsb) (hS.at fun o q=>hm.heap a _ haw q))
 | succ k ih =>
  intro i s hk hi hst hS hR;have hlt:i < n:=by omega
  refine KJ F.entry_set_update_loop ?_;rw [KC F.plain_set_update_loop _];show wpAny _ AA.in1 (pyNext (.ref IT)>>=_) _ _ s;refine IF (W.item i s _ _ hlt hst fun v s' hP hst' hm=>?_);obtain ⟨t,rfl⟩:=hv i v hP;have hS':b4 pr ww s'.heap a (t7 val i):=hS.at fun o q=>hm.heap a _ haw q;show wpAny _ AA.in1 (holding [Value.str (val i) t] (setAdd a (.str (val i) t))>>=_) _ _ s';refine IF (JX ?_);unfold setAdd;refine JX ?_;refine IF ((strKind pr ww).pyHash (k:=val i) (by show Value.isStrOf (val i) (.str (val i) t)=true;simp [Value.isStrOf]) ?_);refine Dp (st:={ s' with toks:=s'.toks+1 }) hS' (by have:=l8 val i;omega) fun bb h' hsm hS2=>?_;rw [<- jB] at hS2;refine IJ ⟨plainId_quiet F.plain_set_update_loop _,ih (i+1) _ (by omega) hlt (W.frame _ s' _ _ hst' (Nat.le_succ _) fun b hb o e=>?_) hS2 fun s'' hm'' hS''=>?_⟩
  ·rw [hsm.2 b (fun z:b=a=>ha (by rw [<- z];exact hb))];exact e
  ·refine hR s'' (Moved.trans W.gtrans ((hm.mono hsb).then_heap (Nat.le_succ _) fun b o hb e=>?_) hm'') hS'';rw [hsm.2 b (fun z:b=a=>hb (by rw [z];exact IP))];exact e
end
theorem rX:∀ {us:List Value} {zs:List Str},StrsAre us zs->∀ (i:Nat) (v:Value),us[i]?=some v->∃ t,v=.str (zs.getD i Str.empty) t
 | _,_,.nil,i,v,h=>by simp at h
 | _,_,.cons y t h,0,v,q=>by
  simp only [List.getElem?_cons_zero,Option.some.injEq] at q;exact ⟨t,q.symm⟩
 | _,_,.cons y t h,i+1,v,q=>by
  simp only [List.getElem?_cons_succ] at q;exact rX h i v q
theorem map_getD (ss:List Str):(List.range ss.length).map (fun i=>ss.getD i Str.empty)=ss:=by
 apply List.ext_getElem
 ·simp
 ·intro i h1 h2;simp [h2]
section
variable {pr:Program} {ww:World} {AA:Around} {EE:Value->Shared->Prop} {st:Shared}
noncomputable abbrev fh (ww:World):Obj:={ cls:=.type "set", dict:=none,data:=.set #[] 0 (.fresh 0 0 (!fo ww)) }
theorem DQ (v:Value) {Q:Value->Shared->Prop} (h:Q (.ref st.heap.objs.size) { st with heap:=st.heap.push (fh ww) }) :
  codeAny (model pr ww) AA (.call (.builtin "set.__new__") ⟨[.type "set", v],[]⟩) (wants Q EE) st:=by
 refine codeAny_of_tree ?_;show wpAny _ AA.in1 (do checkBuiltinCall "set.__new__" ⟨[.type "set", v],[]⟩;again (.builtin "set.__new__" ⟨[.type "set", v],[]⟩)) _ _ st;refine IF (wpAny_of_eq (F.newCall_set_1 v) (IJ ⟨plainId_quiet F.plain_set_new _,KJ F.entry_set_new ?_⟩));rw [KC F.plain_set_new _];unfold Builtin.«set.__new__» Builtin.Frozenset.newClass
 have hsub:=sub_set_self;obtain ⟨h0,g0,d0,t0,o0⟩:=st;dsimp only at h ⊢
 wp_walk
 refine wpAny_askSetting (IJ ?_);dsimp only;simp only [newObj];refine IF (wpAny_alloc (IJ ?_));exact IJ h
theorem yq {h:Heap} {a:Addr} (hg:h.get? a=some (fh ww)):b4 pr ww h a [] :=
 ⟨_,#[],0,_,hg,⟨rfl,rfl,rfl⟩,rfl,fun e he=>by simp at he,⟨[],.nil,.nil⟩,by decide,⟨rfl,rfl,fun z=>absurd rfl z⟩⟩
theorem sH {l:Addr} {its:Array Value} {ss:List Str} {Q:Value->Shared->Prop} (hh:AA.handled=none) (hl:st.heap.IsList l its) (hi:StrsAre its.toList ss) (hb:its.size+1 < scanBound)
  (h:∀ (h':Heap) (tk:Nat),b4 pr ww h' st.heap.objs.size (ss.foldl gQ [])->(∀ b o,b < st.heap.objs.size->st.heap.get? b=some o->h'.get? b=some o)->Q (.ref st.heap.objs.size) { st with heap:=h',toks:=tk }) :
  wpAny (model pr ww) AA (call (.type "set") [.ref l]) Q EE st:=by
 obtain ⟨cc,tl,hmro⟩:=F.called_set.mro;have hmade:=F.called_set.made;have hsub:=F.called_set.sub;refine wpAny_call (codeAny_of_tree ?_);show wpAny _ _ (callAny (.type "set") _) _ _ _;refine IJ ⟨Code.quiet_builtin _ (by decide +kernel),KJ F.entry_type_call ?_⟩;rw [Around.under_plain (weight_type_call_type "set" [.ref l] []) rfl];have h1:=F.called_set.notType;have h2:=F.called_set.canCreate;have hct:=F.typeCall_set_1 (.ref l)
 repeat (any_goals (first | assumption | wp_step))
 refine codeAny_mono (DQ (.ref l) (EE:=EE) (Q:=fun obj s1=>obj=.ref st.heap.objs.size/\s1={ st with heap:=st.heap.push (fh ww) }) ⟨rfl,rfl⟩) fun r s1 hr=>?_;cases r with
 | error e=>exact hr
 | ok fl =>
  cases fl with
  | ret obj =>
   obtain ⟨rfl,rfl⟩:=hr;have hS:(st.heap.push (fh ww)).get? st.heap.objs.size=some (fh ww):=Jk _ rfl;have hT:Shared.TypeIs { st with heap:=st.heap.push (fh ww) } (.ref st.heap.objs.size) "set" := ⟨_,hS,rfl⟩;have hli:=F.called_set.init.lookup;have hbi:=F.called_set.init.bind (.ref st.heap.objs.size)
   repeat (any_goals (first | assumption | wp_step))
   refine codeAny_mono (codeAny_call_builtin (R:=wants (fun r s2=>r=.none/\∃ h' tk,s2={ st with heap:=h',toks:=tk }/\b4 pr ww h' st.heap.objs.size (ss.foldl gQ []) /\
     (∀ b o,b < st.heap.objs.size->st.heap.get? b=some o->h'.get? b=some o)) EE) F.called_set.init.plain F.entry_set_init (check_set_init_1 hT ?_)) fun r2 s2 hr2=>?_
   ·obtain ⟨ol,hol,hcl,nl,hdl⟩:=hl;obtain ⟨c1,c2,c3,c4⟩:=ol;simp only at hcl hdl;subst hcl;subst hdl;have hol2:(st.heap.push (fh ww)).get? l=some { cls:=.type "list", dict:=c2,data:=.seq its nl,slots:=c4 }:=IQ _ hol;have hsls:=F.sub_list_set;have hslf:=F.sub_list_frozenset;have hne:(Value.type "list" == Value.type "dict")=false:=by decide
    have hl1:(st.heap.push (fh ww)).IsList l its:=⟨_,hol2,rfl,nl,rfl⟩;unfold Builtin.«set.__init__» noKeywords Builtin.Frozenset.updateFrom
    generalize hPI:pyIter=PI
    wp_walk
    subst hPI;refine wpAny_pyIter_list hl1 ?_;refine IF (wpAny_runValue ?_);have hlS:l < st.heap.objs.size:=Jc hol;have hh3:AA.in1.in1.in1.handled=none:=by simp [hh]
    have sz1:(st.heap.push (fh ww)).objs.size=st.heap.objs.size+1:=Heap.size_push ..;have hneI:l≠(st.heap.push (fh ww)).objs.size:=by rw [sz1];exact Js (KW hlS)
    have hSf:st.heap.objs.size ∉ [(st.heap.push (fh ww)).objs.size,l]:=by
     rw [sz1];simp only [Jb,Ja,KH,K4,not_or];exact ⟨Js (Kt _),Kf hlS⟩
    have hval:∀ (i:Nat) (v:Value),its[i]?=some v->∃ t,v=.str ((fun i=>ss.getD i Str.empty) i) t:=fun i v hv=>rX hi i v (by rw [Kb];exact hv);have hmet:t7 (fun i=>ss.getD i Str.empty) its.size=ss.foldl gQ []:=by
     have e1:its.size=ss.length:=by rw [<- bj hi,JJ]
     rw [e1];unfold t7;rw [map_getD]
    refine Dw ((Walks.list hh3 _ l hneI its).toS) st.heap.objs.size hSf (fun i=>ss.getD i Str.empty) hval hb (its.size - 0) 0 _ (by omega) (JZ _)
     ⟨⟨_,Jk _ rfl,rfl,rfl⟩,(hl1.push _)⟩ (yq (IQ _ hS)) ?hR
    intro s' hm hS';rw [hmet] at hS';obtain ⟨h',g',d',tk',os'⟩:=s';have eg:g'=st.gens:=hm.gens;have ed:d'=st.drawn:=hm.drawn;have eo:os'=st.os:=hm.os;subst eg;subst ed;subst eo;show wpAny _ _ _ _ _ _;refine IJ ?_;show wpAny _ _ (ret Value.none) _ _ _;refine IJ ⟨rfl,h',tk',rfl,hS',fun b o hb e=>?_⟩;have hb1:b≠st.heap.objs.size:=Js hb;have hb2:b≠(st.heap.push (fh ww)).objs.size:=by rw [sz1];exact Js (KW hb)
    exact hm.heap b o (by simp only [Jb,Ja,KH,K4,not_or];exact ⟨hb1,hb2⟩) (IQ _ (IQ _ e))
   ·cases r2 with
    | error e=>exact hr2
    | ok fl2 =>
     cases fl2 with
     | ret r =>
      obtain ⟨rfl,h',tk,rfl,hS',hk'⟩:=hr2
      repeat (any_goals (first | assumption | wp_step))
      exact h _ _ hS' hk'
     | _=>exact hr2.elim
  | _=>exact hr.elim
end
end L2
end
section
namespace L2
open PySem PySem.Spec PyProof.Rows
namespace SF
theorem cW:Slot "set_iterator" "__next__" "set_iterator.__next__" :=
 .of (owner := "set_iterator") (n := "__next__") (by rw [typeLookup_type,builtinLookup_eq_fast];kernel_rfl) (by decide +kernel) (by decide +kernel) (by decide +kernel) (by first | exact .inl (by decide +kernel) | exact .inr (by decide +kernel)) (by rw [isSubtype_type];kernel_rfl)
theorem qu:entryFor table "set_iterator.__next__" = some Builtin.«set_iterator.__next__»:=entryFor_of_tree (by kernel_rfl)
theorem qD (v:Value):argsOk "set_iterator.__next__" ⟨[v],[]⟩:=by kernel_rfl
theorem yD:entryFor table "set.__iter__" = some Builtin.«frozenset.__iter__»:=entryFor_alias (id' := "frozenset.__iter__") (by kernel_rfl) rfl (by decide +kernel) (by kernel_rfl)
theorem xh:typeLookup (.type "set") "__len__" = pure (some (.builtin "set.__len__")):=by rw [typeLookup_type,builtinLookup_eq_fast];kernel_rfl
end SF
theorem EF {M:Model} {AA:Around} {EE:Value->Shared->Prop} {st:Shared} {src:Source} {n:Nat} {Q:Nat->Shared->Prop} (hn:n≠0) (h:∀ k d',k < n->Q k { st with drawn:=d' }):wpAny M AA (choose src n) Q EE st:=fun _ _ _=>by
 unfold choose;exact ⟨hn,h _ _ (Nat.mod_lt _ (Nat.pos_of_ne_zero hn))⟩
theorem eh {α:Type}:∀ (xs:List α) (i:Nat) (h:i < xs.length),(xs[i] :: xs.eraseIdx i).Perm xs
 | x :: xs,0,h=>by simp
 | x :: xs,i+1,h=>by
  have ih:=eh xs i (by simpa using h);simp only [List.getElem_cons_succ,List.eraseIdx_cons_succ];exact (List.Perm.swap _ _ _).trans (ih.cons x)
theorem pH {α:Type} {M:Model} {AA:Around} {EE:Value->Shared->Prop}:∀ (n:Nat) (xs:List α) {st:Shared} {Q:List α->Shared->Prop},xs.length=n->(∀ ys d',ys.Perm xs->Q ys { st with drawn:=d' })->wpAny M AA (drawOrder n xs) Q EE st
 | 0,xs,st,Q,hn,h=>by
  obtain rfl:xs=[]:=List.length_eq_zero_iff.mp hn;unfold drawOrder;have q:=h [] st.drawn .nil;cases st;exact IJ q
 | n+1,[],st,Q,hn,h=>by simp at hn
 | n+1,x :: xs,st,Q,hn,h=>by
  unfold drawOrder;refine IF (EF (by simp) fun k d' hk=>?_);have hk':(x :: xs)[k]?=some (x :: xs)[k]:=IG hk;rw [hk'];dsimp only;refine IF (pH n _ (by rw [List.length_eraseIdx_of_lt hk,hn];rfl) fun ys d2 hp=>?_);refine IJ (h _ d2 ?_);exact (hp.cons _).trans (eh _ _ hk)
theorem qj {α:Type} (nx:Nat->Nat):∀ (f k:Nat) (left:List α) (out:Array α),left.length=f->(pickOrder.go nx f k left out).toList.Perm (out.toList++left)
 | 0,k,left,out,h=>by
  obtain rfl:left=[]:=List.length_eq_zero_iff.mp h;unfold pickOrder.go;simp
 | f+1,k,left,out,h=>by
  unfold pickOrder.go;have hlt:nx k % left.length < left.length:=Nat.mod_lt _ (by omega);rw [IG hlt];dsimp only;refine (qj nx f (k+1) _ _ (by rw [List.length_eraseIdx_of_lt hlt,h];rfl)).trans ?_;rw [LK,Jn];exact (eh _ _ hlt).append_left _
theorem qQ {α:Type} (nx:Nat->Nat) (xs:Array α):(pickOrder nx xs).toList.Perm xs.toList:=by
 unfold pickOrder;have:=qj nx xs.size 0 xs.toList #[] (by simp);simpa using this
theorem wN (j:Nat):SetTable.below #[j] 0=0/\SetTable.below #[j] (j+1)=1:=by
 unfold SetTable.below;constructor
 ·show SetTable.below.go #[j] 0 1 0 1=0;simp [SetTable.below.go]
 ·show SetTable.below.go #[j] (j+1) 1 0 1=1;simp [SetTable.below.go]
noncomputable abbrev Bs (f0:Value) (i:Nat) (d:Value) (n ep:Nat):Obj:={ cls:=.type "set_iterator", dict:=none,data:=.fields #[f0,.int i 0,d,.int n 0,.int ep 0],slots:=#[] }
noncomputable def Way (ww:World) (h:Heap) (d:Addr) (es:Array (Int×Value)) (ep:Nat) (tb:SetTable) (vs:List Value) (T:Addr) (f0:Value) (i:Nat):Prop :=
 (fo ww=true/\f0=.int 0 0/\vs=(pickOrder (ww.params.setOrder d ep) es).toList.map (·.2)) \/
 (fo ww=false/\(!tb.plain&&decide (es.size > 1))=true/\∃ ps:List Nat,f0=.ref T/\h.get? T=some { cls:=.type "tuple", data:=.seq (ps.map fun (k:Nat)=>rawInt k).toArray }/\(∀ p∈ps,p < es.size)/\vs=ps.map fun p=>(es.getD p (0,.none)).2) \/
 (fo ww=false/\es.size<=1/\tb.led=true/\(∃ k:Nat,f0=.int k 0/\SetTable.below tb.place k=i)/\vs=es.toList.map (·.2))
section
variable {pr:Program} {ww:World} {AA:Around} {EE:Value->Shared->Prop} {st:Shared}
theorem sbt {Q:Bool->Shared->Prop} (h:Q (fo ww) st):wpAny (model pr ww) AA setsByText Q EE st:=by
 unfold setsByText;exact IF (wpAny_askSetting (IJ h))
theorem snA {d:Addr} {ob:Obj} {es:Array (Int×Value)} {ep sl g:Nat} {tb:SetTable} {Q:Option (Value×Nat)->Shared->Prop} (hd:st.heap.get? d=some ob) (hdd:ob.data=.set es ep tb) (hf:tb.fits es.size=true) (hb:fo ww=true)
  (h:Q (((pickOrder (ww.params.setOrder d ep) es)[g]?).map fun e=>(e.2,sl)) st):wpAny (model pr ww) AA (setNext d sl g ep) Q EE st:=by
 unfold setNext;refine IF (Le hd hdd hf ?_);dsimp only;refine IF (sbt ?_);rw [hb,IV rfl,IU (by simp)];unfold setWalk;refine IF (IF (Le hd hdd hf ?_));dsimp only;refine IF (sbt ?_);rw [hb,IV rfl];refine IF (wpAny_askSetting (IJ ?_));exact IJ h
theorem snC {d:Addr} {ob:Obj} {es:Array (Int×Value)} {ep sl g:Nat} {tb:SetTable} {Q:Option (Value×Nat)->Shared->Prop} (hd:st.heap.get? d=some ob) (hdd:ob.data=.set es ep tb) (hf:tb.fits es.size=true) (hb:fo ww=false) (h1:es.size<=1) (hl:tb.led=true)
  (h:Q (match es[SetTable.below tb.place sl]?,tb.place[SetTable.below tb.place sl]? with | some (_,x),some j=>some (x,j+1) | _,_=>none) st):wpAny (model pr ww) AA (setNext d sl g ep) Q EE st:=by
 unfold setNext;refine IF (Le hd hdd hf ?_);dsimp only;refine IF (sbt ?_);rw [hb,IU (by simp)];show wpAny _ _ (if (!tb.plain&&decide (es.size > 1))=true then _ else _) _ _ _;rw [IU (by have:decide (es.size > 1)=false:=Jy (by omega);rw [this,Bool.and_false];simp)];refine IF ?_;show wpAny _ _ (if (!tb.led&&!es.isEmpty)=true then _ else _) _ _ _;rw [hl,IU (by simp)];refine IJ ?_;exact IJ h
theorem snB {d:Addr} {ob:Obj} {es:Array (Int×Value)} {ep p:Nat} {tb:SetTable} {Q:Value->Shared->Prop} {e:Int×Value} (hd:st.heap.get? d=some ob) (hdd:ob.data=.set es ep tb) (hf:tb.fits es.size=true) (he:es[p]?=some e)
  (h:Q e.2 st):wpAny (model pr ww) AA (setNextDrawn d p ep) Q EE st:=by
 unfold setNextDrawn;refine IF (Le hd hdd hf ?_);dsimp only;rw [IU (by simp),he];exact IJ h
theorem zP {IT d T:Addr} {f0:Value} {i ep:Nat} {es:Array (Int×Value)} {tb:SetTable} {ob:Obj} {vs:List Value} {Q:Option Value->Shared->Prop}
  (hit:st.heap.get? IT=some (Bs f0 i (.ref d) es.size ep)) (hd:st.heap.get? d=some ob) (hdd:ob.data=.set es ep tb) (hf:tb.fits es.size=true) (hw:Way ww st.heap d es ep tb vs T f0 i) {v:Value} (hv:vs[i]?=some v)
  (h:∀ f1 h',h'.get? IT=some (Bs f1 (i+1) (.ref d) es.size ep)->Heap.SameBut IT st.heap h'->Way ww h' d es ep tb vs T f1 (i+1)->Q (some v) { st with heap:=h' }) :
  wpAny (model pr ww) AA (pyNext (.ref IT)) Q EE st:=by
 have hT:st.TypeIs (.ref IT) "set_iterator" := ⟨_,hit,rfl⟩;unfold pyNext;refine IF (LM (Kj (name:=Str.ofString "__next__") hT SF.cW (J6 SF.cW hT SF.qu ?_ (SF.qD _))));unfold Builtin.«set_iterator.__next__»
 refine IF (m:=slotArgs "__next__" 0 ⟨[.ref IT],[]⟩) (IJ ?_);dsimp only;refine IF (Lu hit rfl ?_);dsimp only;refine IF (wpAny_setEntries_of hd hdd hf ?_);rw [IU (by simp)];simp only [Km];rcases hw with ⟨hb,rfl,rfl⟩ | ⟨hb,hdr,ps,rfl,hTo,hps,rfl⟩ | ⟨hb,h1,hl,⟨k,rfl,hk⟩,rfl⟩
 ·dsimp only;refine IF (snA hd hdd hf hb ?_);rw [IX,Kb] at hv;obtain ⟨e,he,rfl⟩:=Jd.mp hv;rw [he];dsimp only [Option.map_some];refine IF (Kh hit (by simp) fun h1 g1 s1=>?_);refine IF (Kh g1 (by simp) fun h2 g2 s2=>?_);refine IJ ⟨_,rfl,IJ (h (.int 0 0) h2 ?_ (s1.trans s2) (.inl ⟨hb,rfl,rfl⟩))⟩;exact g2
 ·dsimp only;refine IF (wpAny_seqItems hTo rfl ?_);dsimp only;rw [IX] at hv;obtain ⟨p,hp,hpv⟩:=Jd.mp hv;have hpl:p < es.size:=hps p (Jl hp);have e1:((ps.map fun (k:Nat)=>rawInt k).toArray)[i]?=some (.int p 0):=by
   rw [KQ,IX,hp];rfl
  rw [e1];dsimp only;have e2:es[p]?=some (es.getD p (0,.none)):=by
   rw [KY,JK hpl];rfl
  refine IF (snB (p:=(p:Int).toNat) hd hdd hf (by rw [Km];exact e2) ?_);refine IF (Kh hit (by simp) fun h1 g1 s1=>?_);have hne:T≠IT:=fun z=>by rw [z,hit] at hTo;exact absurd (congrArg Obj.cls (JQ hTo)) (show ¬(Value.type "set_iterator" = Value.type "tuple") from by decide)
  rw [hpv];exact IJ ⟨_,rfl,IJ (h (.ref T) h1 g1 s1 (.inr (.inl ⟨hb,hdr,ps,rfl,by rw [s1.2 T hne];exact hTo,hps,rfl⟩)))⟩
 ·dsimp only;refine IF (snC (sl:=(k:Int).toNat) hd hdd hf hb h1 hl ?_);rw [IX,Kb] at hv;obtain ⟨e,he,rfl⟩:=Jd.mp hv;have hi:i < es.size:=by
   rcases K1 i es.size with z | z
   ·exact z
   ·rw [Ks z] at he;cases he
  obtain rfl:i=0:=by omega
  have hpl:tb.place.size=es.size:=by
   simp only [SetTable.fits,Jx,JD] at hf;exact hf.1
  obtain ⟨j,hj⟩:∃ j,tb.place=#[j]:=by
   have:tb.place.size=1:=by omega
   exact Array.size_eq_one_iff.mp this
  rw [Km,hk,he,hj];obtain ⟨hs,x⟩:=e;refine IF (Kh hit (by simp) fun h1 g1 s1=>?_);refine IF (Kh g1 (by simp) fun h2 g2 s2=>?_);exact IJ ⟨_,rfl,IJ (h (.int ((j+1:Nat):Int) 0) h2 g2 (s1.trans s2) (.inr (.inr ⟨hb,by assumption,hl,⟨j+1,rfl,by rw [hj];exact (wN j).2⟩,rfl⟩)))⟩
theorem p4 {Q:Option Value->Shared->Prop} {IT:Addr} (hh:AA.handled=none) (h:∀ h',Heap.ExtBut IT st.heap h'->Q none { st with heap:=h' }) :
  wpAny (model pr ww) AA.in1 (do
     let z<-newExc (Value.type "StopIteration") []
     raiseNew z:Sem Fin)
  (fun fin s'=>∃ v,fin=Fin.done (Flow.ret v)/\wpAny (model pr ww) AA (pure (some v)) Q EE s')
  (fun e s' =>
   wpAny (model pr ww) AA
    (do
     let z<-isInstance e (Value.type "StopIteration")
     if z=true then pure none else throw e)
    Q EE s')
  st:=by
 refine IF ?_;simp only [newExc,newTuple];refine IF (JU ?_ (by size_fits));refine IF (m:=firstArgMember _ _) (wpAny_of_eq (a:=Value.none) (by first | rfl | (simp only [firstArgMember];rfl)) ?_);refine JU ?_ (by size_fits);simp only [raiseNew];refine IF (wpAny_handled ?_);rw [show AA.in1.handled=none from hh];refine IF (IJ (wpAny_throw ?_));refine IF (wpAny_isInstance (T := "StopIteration") (b:=true) ⟨_,Jk _ rfl,rfl⟩ isSubtype_stop ?_);rw [IV rfl];exact IJ (h _ fun b o _ e=>IQ _ (IQ _ e))
theorem FP {IT d T:Addr} {f0:Value} {i ep:Nat} {es:Array (Int×Value)} {tb:SetTable} {ob:Obj} {vs:List Value} {Q:Option Value->Shared->Prop} (hh:AA.handled=none)
  (hit:st.heap.get? IT=some (Bs f0 i (.ref d) es.size ep)) (hd:st.heap.get? d=some ob) (hdd:ob.data=.set es ep tb) (hf:tb.fits es.size=true) (hw:Way ww st.heap d es ep tb vs T f0 i) (hv:vs[i]?=none)
  (h:∀ h',Heap.ExtBut IT st.heap h'->Q none { st with heap:=h' }) :
  wpAny (model pr ww) AA (pyNext (.ref IT)) Q EE st:=by
 have hT:st.TypeIs (.ref IT) "set_iterator" := ⟨_,hit,rfl⟩;unfold pyNext;refine IF (LM (Kj (name:=Str.ofString "__next__") hT SF.cW (J6 SF.cW hT SF.qu ?_ (SF.qD _))));unfold Builtin.«set_iterator.__next__»
 refine IF (m:=slotArgs "__next__" 0 ⟨[.ref IT],[]⟩) (IJ ?_);dsimp only;refine IF (Lu hit rfl ?_);dsimp only;refine IF (wpAny_setEntries_of hd hdd hf ?_);rw [IU (by simp)];simp only [Km];have fin:∀ h1,Heap.SameBut IT st.heap h1->∀ h',Heap.ExtBut IT h1 h'->Q none { st with heap:=h' }:=fun h1 s1 h' x=>h h' fun b o hb e=>x b o hb (by rw [s1.2 b hb];exact e);rcases hw with ⟨hb,rfl,rfl⟩ | ⟨hb,hdr,ps,rfl,hTo,hps,rfl⟩ | ⟨hb,h1,hl,⟨k,rfl,hk⟩,rfl⟩
 ·dsimp only;refine IF (snA hd hdd hf hb ?_);rw [IX,Kb] at hv;rw [Option.map_eq_none_iff.mp hv];dsimp only [Option.map_none];refine IF (Kh hit (by simp) fun h1 g1 s1=>?_);exact p4 (IT:=IT) (st:={ st with heap:=h1 }) hh (fin h1 s1)
 ·dsimp only;refine IF (wpAny_seqItems hTo rfl ?_);dsimp only;rw [IX] at hv;have e1:((ps.map fun (k:Nat)=>rawInt k).toArray)[i]?=none:=by
   rw [KQ,IX,Option.map_eq_none_iff.mp hv];rfl
  rw [e1];dsimp only;refine IF (Kh hit (by simp) fun h1 g1 s1=>?_);refine IF (Kh g1 (by simp) fun h2 g2 s2=>?_);exact p4 (IT:=IT) (st:={ st with heap:=h2 }) hh (fin h2 (s1.trans s2))
 ·dsimp only;refine IF (snC (sl:=(k:Int).toNat) hd hdd hf hb h1 hl ?_);rw [IX,Kb] at hv;have hv:=Option.map_eq_none_iff.mp hv;rw [Km,hk,hv];refine IF (Kh hit (by simp) fun h1 g1 s1=>?_);exact p4 (IT:=IT) (st:={ st with heap:=h1 }) hh (fin h1 s1)
end
end L2
end
section
namespace L2
open PySem PySem.Spec PyProof.Rows
namespace SF
theorem vX:Slot "set_iterator" "__iter__" "set_iterator.__iter__" :=
 .of (owner := "set_iterator") (n := "__iter__") (by rw [typeLookup_type,builtinLookup_eq_fast];kernel_rfl) (by decide +kernel) (by decide +kernel) (by decide +kernel) (by first | exact .inl (by decide +kernel) | exact .inr (by decide +kernel)) (by rw [isSubtype_type];kernel_rfl)
theorem Bc:entryFor table "set_iterator.__iter__" = some Builtin.«dict_keyiterator.__iter__»:=entryFor_alias (id' := "dict_keyiterator.__iter__") (by kernel_rfl) rfl (by decide +kernel) (by kernel_rfl)
theorem Cg (v:Value):argsOk "set_iterator.__iter__" ⟨[v],[]⟩:=by kernel_rfl
end SF
section
variable {pr:Program} {ww:World} {AA:Around} {EE:Value->Shared->Prop} {st:Shared}
theorem Way.frame {h h':Heap} {d T:Addr} {es:Array (Int×Value)} {ep i:Nat} {tb:SetTable} {vs:List Value} {f0:Value} (w:Way ww h d es ep tb vs T f0 i) (k:∀ o,h.get? T=some o->h'.get? T=some o):Way ww h' d es ep tb vs T f0 i:=by
 rcases w with w | ⟨hb,hdr,ps,e,hTo,r⟩ | w
 ·exact .inl w
 ·exact .inr (.inl ⟨hb,hdr,ps,e,k _ hTo,r⟩)
 ·exact .inr (.inr w)
theorem z6 (hh:AA.handled=none) (IT d T:Addr) (h1:d≠IT) (h2:T≠IT) {es:Array (Int×Value)} {ep:Nat} {tb:SetTable} {ob:Obj} (hdd:ob.data=.set es ep tb) (hf:tb.fits es.size=true) (vs:List Value) :
  WalksS pr ww AA IT [IT,d,T] [IT] (fun a b=>b=a) vs.length (fun i v=>vs[i]?=some v) (fun i s=>∃ f0,s.heap.get? IT=some (Bs f0 i (.ref d) es.size ep)/\s.heap.get? d=some ob/\Way ww s.heap d es ep tb vs T f0 i) where
 sub:=fun b hb=>by simp at hb;simp [hb]
 grefl:=fun _=>rfl
 gtrans:=fun _ _ _ x y=>y.trans x
 frame:=fun i s h' tk st _ k=>by
  obtain ⟨f0,a,b,c⟩:=st;exact ⟨f0,k IT (by simp) _ a,k d (by simp) _ b,c.frame (k T (by simp))⟩
 item:=fun i s Q E hi st hQ=>by
  obtain ⟨f0,a,b,c⟩:=st;refine zP a b hdd hf c (v:=vs[i]) (IG hi) fun f1 h' g1 s1 w1=>?_;exact hQ _ _ (IG hi) ⟨f1,g1,by show h'.get? d=_;rw [s1.2 d h1];exact b,w1⟩ ⟨fun b' o hb e=>by show h'.get? b'=_;rw [s1.2 b' (fun z=>hb (by simp [z]))];exact e,rfl,rfl,rfl,IY _⟩
 done:=fun s Q E st hQ=>by
  obtain ⟨f0,a,b,c⟩:=st;refine FP hh a b hdd hf c (Lh (IY _)) fun h' x=>?_;exact hQ _ ⟨fun b' o hb e=>x b' o (fun z=>hb (by simp [z])) e,rfl,rfl,rfl,IY _⟩
 self:=fun i s Q E st hQ=>by
  obtain ⟨f0,a,b,c⟩:=st;have hT:s.TypeIs (.ref IT) "set_iterator" := ⟨_,a,rfl⟩;refine wpAny_pyIter_slot hT SF.vX (J6 SF.vX hT SF.Bc ?_ (SF.Cg _));show wpAny _ _ (ret (.ref IT)) _ _ s;exact IJ ⟨_,rfl, "set_iterator", _,hT,SF.cW.lookup,hQ⟩
theorem range_getD (es:Array (Int×Value)):(List.range es.size).map (fun p=>(es.getD p (0,.none)).2)=es.toList.map (·.2):=by
 apply List.ext_getElem
 ·simp
 ·intro i h1 h2;have h3:i < es.size:=by simpa using h1
  simp [h3]
theorem zX {d:Addr} {es:Array (Int×Value)} {ep:Nat} {tb:SetTable} {ob:Obj} {Q:Value->Shared->Prop} (hd:st.heap.get? d=some ob) (hc:ob.ExactSet) (hdd:ob.data=.set es ep tb) (ht:CM ww tb es.size) (hsz:es.size < scanBound)
  (h:∀ vs f0 T IT h' d',vs.Perm (es.toList.map (·.2))->h'.get? IT=some (Bs f0 0 (.ref d) es.size ep)->Way ww h' d es ep tb vs T f0 0->st.heap.objs.size<=IT->T≠IT->(T=d\/st.heap.objs.size<=T)->(∀ b o,st.heap.get? b=some o->h'.get? b=some o)->Q (.ref IT) { st with heap:=h',drawn:=d' }) :
  wpAny (model pr ww) AA (pyIter (.ref d)) Q EE st:=by
 have hT:st.TypeIs (.ref d) "set" := ⟨_,hd,hc.1⟩;have hlt:d < st.heap.objs.size:=Jc hd;refine wpAny_pyIter_slot hT F.slot_set_iter (J6 F.slot_set_iter hT SF.yD ?_ (F.args_set_iter_1 _));unfold Builtin.«frozenset.__iter__» Builtin.Frozenset.slot0 Builtin.Frozenset.sizeOf
 refine IF (IF (m:=slotArgs "__iter__" 0 ⟨[.ref d],[]⟩) (IJ (IJ ?_)));refine IF (IF (wpAny_setEntries_of hd hdd ht.fit (IJ ?_)));unfold setDrawn;refine IF (IF (Le hd hdd ht.fit ?_));dsimp only;refine IF (sbt (IJ ?_));show wpAny _ _ (if (!fo ww&&(!tb.plain&&decide (es.size > 1)))=true then _ else _) _ _ _;have hpl:tb.place.size=es.size:=by
  have hf:=ht.fit;simp only [SetTable.fits,Jx,JD] at hf;exact hf.1
 split
 ·rename_i hdr;simp only [Jx,KA] at hdr;obtain ⟨hb,hdr⟩:=hdr;refine IF (pH es.size (List.range es.size) (by simp) fun ps d' hps=>?_);have hpsl:ps.length=es.size:=by rw [hps.length_eq,J9]
  refine IF (wpAny_newTuple ?_ (by rw [II,hpsl];exact fits_of_scanBound hsz));have g0:(st.heap.push { cls:=.type "tuple", data:=.seq (ps.map fun (k:Nat)=>rawInt k).toArray }).get? d=some ob:=IQ _ hd;refine IF (wpAny_setEpoch_of (s:={ st with heap:=st.heap.push { cls:=.type "tuple", data:=.seq (ps.map fun (k:Nat)=>rawInt k).toArray },drawn:=d' }) g0 hdd ht.fit ?_);refine IF (m:=newFields _ _) (JU ?_ (by size_fits));have e1:(st.heap.push { cls:=.type "tuple", data:=.seq (ps.map fun (k:Nat)=>rawInt k).toArray }).objs.size=st.heap.objs.size+1:=Heap.size_push ..;have gT:(st.heap.push { cls:=.type "tuple", data:=.seq (ps.map fun (k:Nat)=>rawInt k).toArray }).get? st.heap.objs.size=some { cls:=.type "tuple", data:=.seq (ps.map fun (k:Nat)=>rawInt k).toArray }:=Jk _ rfl;refine IJ ⟨_,rfl, "set_iterator", _,⟨_,Jk _ rfl,rfl⟩,SF.cW.lookup,?_⟩;refine h (ps.map fun p=>(es.getD p (0,.none)).2) (.ref st.heap.objs.size) st.heap.objs.size _ _ d' ?_ (Jk _ rfl) (.inr (.inl ⟨hb,by rw [Jx,KA];exact hdr,ps,rfl,IQ _ gT,fun p hp=>by have:=hps.mem_iff.mp hp;simpa using this,rfl⟩)) ?_ ?_ (.inr (IY _)) fun b o e=>IQ _ (IQ _ e)
  ·rw [<- range_getD];exact hps.map _
  ·show st.heap.objs.size<=(st.heap.push _).objs.size;rw [e1];exact Nat.le_succ _
  ·show st.heap.objs.size≠(st.heap.push _).objs.size;rw [e1];exact Js (Kt _)
 ·rename_i hdr;refine IF (IJ ?_);refine IF (wpAny_setEpoch_of hd hdd ht.fit ?_);refine IF (m:=newFields _ _) (JU ?_ (by size_fits));refine IJ ⟨_,rfl, "set_iterator", _,⟨_,Jk _ rfl,rfl⟩,SF.cW.lookup,?_⟩;have fin:∀ vs:List Value,vs.Perm (es.toList.map (·.2))->(fo ww=true/\vs=(pickOrder (ww.params.setOrder d ep) es).toList.map (·.2)\/fo ww=false/\es.size<=1/\vs=es.toList.map (·.2))->Q (.ref st.heap.objs.size) { st with heap:=st.heap.push { cls:=.type "set_iterator", data:=.fields #[rawInt 0,rawInt 0,.ref d,rawInt es.size,rawInt ep] } }:=by
   intro vs pm cs;refine h vs (.int 0 0) d _ _ st.drawn pm (Jk _ rfl) ?_ (IY _) (Js hlt) (.inl rfl) fun b o e=>IQ _ e;rcases cs with ⟨hb,rfl⟩ | ⟨hb,h1,rfl⟩
   ·exact .inl ⟨hb,rfl,rfl⟩
   ·refine .inr (.inr ⟨hb,h1,by rw [ht.led,hb];rfl,⟨0,rfl,?_⟩,rfl⟩);rcases K1 0 es.size with z | z
    ·obtain ⟨j,hj⟩:∃ j,tb.place=#[j]:=Array.size_eq_one_iff.mp (by omega);rw [hj];exact (wN j).1
    ·have:tb.place=#[]:=Array.size_eq_zero_iff.mp (by omega);rw [this];rfl
  cases hb:fo ww with
  | true=>exact fin _ ((qQ _ es).map _) (.inl ⟨hb,rfl⟩)
  | false =>
   refine fin _ (Kd _) (.inr ⟨hb,?_,rfl⟩);rcases K1 1 es.size with z | z
   ·have hp:=ht.pln (by omega);rw [hb,hp,Jq z] at hdr;exact absurd rfl hdr
   ·exact z
theorem BR {d:Addr} {ss:List Str} {Q:List Value->Shared->Prop} (hh:AA.handled=none) (hS:b4 pr ww st.heap d ss)
  (h:∀ vs ss' h' d' tk,StrsAre vs ss'->ss'.Perm ss->st.heap.objs.size<=h'.objs.size->(∀ b o,st.heap.get? b=some o->h'.get? b=some o)->Q vs { st with heap:=h',drawn:=d',toks:=tk }) :
  wpAny (model pr ww) AA (collect (.ref d)) Q EE st:=by
 obtain ⟨ob,es,ep,tb,ho,hx,hdd,he,⟨zs,hz1,hz2⟩,hb,ht⟩:=hS;unfold collect;refine IF (wpAny_runValue (KJ F.entry_proto_collect ?_));rw [KC F.plain_proto_collect _];show wpAny _ AA.in1 (newList []>>=fun l=>again (.builtin "list.__iadd__" ⟨[l,.ref d],[]⟩)) _ _ st;refine IF (JU ?_);refine IJ ⟨plainId_quiet F.plain_list_iadd _,KJ F.entry_list_iadd ?_⟩;rw [KC F.plain_list_iadd _];have hlt:d < st.heap.objs.size:=Jc ho;have ne:st.heap.objs.size≠d:=Kf hlt;have g1:(st.heap.push { cls:=.type "list", data:=.seq ([]:List Value).toArray }).get? d=some ob:=IQ _ ho;have g2:(st.heap.push { cls:=.type "list", data:=.seq ([]:List Value).toArray }).get? st.heap.objs.size=some { cls:=.type "list", data:=.seq ([]:List Value).toArray }:=Jk _ rfl;have e1:(st.heap.push { cls:=.type "list", data:=.seq ([]:List Value).toArray }).objs.size=st.heap.objs.size+1:=Heap.size_push ..;have sr:Builtin.List.listSameRef (.ref st.heap.objs.size) (.ref d)=false:=by simp [Builtin.List.listSameRef,ne]
 show wpAny _ AA.in1 (Builtin.List.listExtendWith (.ref st.heap.objs.size) (.ref d) (.ref st.heap.objs.size)) _ _ _;unfold Builtin.List.listExtendWith;have hT:∀ (s:Shared),s.heap.get? d=some ob->s.TypeIs (.ref d) "set" := fun s z=>⟨_,z,hx.1⟩;refine IF (wpAny_typeOf (hT _ g1) ?_);rw [IU (by rw [sr];decide)];refine IF (zX (st:={ st with heap:=st.heap.push { cls:=.type "list", data:=.seq ([]:List Value).toArray } }) g1 hx hdd ht hb fun vs f0 T IT h' d' pm gI wy lI nT lT kp=>?_);refine IF (JX ?_);unfold Builtin.List.listLengthHint;refine IF (LW (hT _ (kp _ _ g1)) SF.xh ?_)
 (generalize hid:("set.__len__" : String)=id0;(fail_if_success (clear hid id0));wp_delta;rw [show splitId id0=some ("set", "__len__") from by subst hid;decide +kernel];subst hid)
 refine IF (wpAny_isInstance (b:=true) (hT _ (kp _ _ g1)) sub_set_self ?_);show wpAny _ _ (typeOf (.ref d)>>=_) _ _ _;refine IF (wpAny_typeOf (hT _ (kp _ _ g1)) ?_);refine IJ ?_;show wpAny _ AA.in1 (rule "list.extend.makes-room" >>= fun _=>Builtin.List.listTouch (.ref st.heap.objs.size)>>=fun _=>again (.builtin "list.extend.loop" ⟨[.ref st.heap.objs.size,.ref IT,.ref st.heap.objs.size],[]⟩)) _ _ _;refine IF (Ke ?_);have g3:h'.get? st.heap.objs.size=some { cls:=.type "list", data:=.seq ([]:List Value).toArray }:=kp _ _ g2;refine IF ?_;show wpAny _ AA.in1 (updateSeq st.heap.objs.size (·.push .none)>>=fun _=>updateSeq st.heap.objs.size (·.pop)) _ _ _;refine IF (wpAny_updateSeq g3 rfl ?_);have g4:=Ka (Obj.mapSeq (·.push Value.none)) g3 rfl;refine wpAny_updateSeq g4 rfl ?_;have g5:=Ka (Obj.mapSeq (·.pop)) g4 rfl;have oth:∀ b o,b≠st.heap.objs.size->h'.get? b=some o->((h'.update st.heap.objs.size (Obj.mapSeq (·.push Value.none))).update st.heap.objs.size (Obj.mapSeq (·.pop))).get? b=some o :=
  fun b o hb e=>(J1 _ _ (Ne.symm hb)).trans ((J1 _ _ (Ne.symm hb)).trans e)
 have lI:st.heap.objs.size+1<=IT:=by rw [<- e1];exact lI
 have nI:IT≠st.heap.objs.size:=Kf lI;have nT2:T≠st.heap.objs.size:=by
  rcases lT with z | z
  ·rw [z];exact Ne.symm ne
  ·have z:st.heap.objs.size+1<=T:=by rw [<- e1];exact z
   exact Kf z
 have nd:d≠IT:=Js (Jo (KW hlt) lI);have hh2:AA.in1.handled=none:=hh;have hsl:vs.length<=sizeLine:=by
  rw [pm.length_eq,II,JJ];exact fits_of_scanBound hb
 refine IJ ⟨plainId_quiet F.plain_extend_loop _,codeAny_extend_loopS (z6 hh2 IT d T nd nT hdd ht.fit vs) hsl st.heap.objs.size (by simp [ne,Ne.symm nI,Ne.symm nT2]) _ vs.length 0 _ _ _ rfl (JZ _)
  ⟨f0,oth _ _ nI gI,oth _ _ (Ne.symm ne) (kp _ _ g1),wy.frame fun o e=>oth _ _ nT2 e⟩ g5 (ItemsOf.nil _) fun s' acc' c' hm hS' hacc=>?_⟩
 show wpAny _ AA (load st.heap.objs.size>>=_) _ _ s';refine IF (wpAny_load hS' ?_);have eacc:acc'.toList=vs:=by
  apply LJ;intro j;rw [Kb];rcases K1 j acc'.size with z | z
  ·rw [JK z];exact (hacc.2 j _ (JK z)).symm
  ·rw [Ks z];exact (Lh (by rw [<- hacc.1];exact z)).symm
 refine IJ ?_;show Q acc'.toList s';rw [eacc];obtain ⟨ws,w1,w2⟩:=bB pm hz1;obtain ⟨h2,gn,dr,tk,os⟩:=s';have eg:gn=st.gens:=hm.gens;have ed:dr=d':=hm.drawn;have eo:os=st.os:=hm.os;subst eg;subst ed;subst eo;refine h vs ws h2 dr tk w1 (w2.trans hz2) (Ls (Jc hS')) fun b o e=>hm.heap b o ?_ (oth b o ?_ (kp _ _ (IQ _ e)))
 ·have hb:b < st.heap.objs.size:=Jc e;simp only [Jb,KH,K4,not_or];exact ⟨Js hb,Js (Jo (KW hb) lI)⟩
 ·exact Js (Jc e)
end
end L2
end
section
namespace L2
open PySem PySem.Spec PyProof.Rows
noncomputable def leT (x y:Str):Bool:=!ltCps y.cps.toList x.cps.toList
theorem jb (x y:Str):leT x y=true↔x.cps.toList<=y.cps.toList:=by
 unfold leT;rw [ltCps_eq,KA,decide_eq_false_iff_not];exact List.not_lt
theorem jw {x y z:Str} (h:leT x y=true) (h':leT y z=true):leT x z=true:=by
 rw [jb] at *;exact List.le_trans h h'
theorem qo (x y:Str):leT x y=true\/leT y x=true:=by
 rw [jb,jb];exact List.le_total _ _
theorem m7 {x y:Str} (h:leT x y=true) (h':leT y x=true):x=y:=by
 rw [jb] at *;have:=List.le_antisymm h h';cases x;cases y;simp only [Str.mk.injEq];exact Ll.mp this
noncomputable def xQ (x:Str):List Str->List Str
 | []=>[x]
 | y :: r=>if leT x y=true then x :: y :: r else y :: xQ x r
noncomputable def iK:List Str->List Str
 | []=>[]
 | x :: r=>xQ x (iK r)
theorem gq (x:Str):∀ l:List Str,(xQ x l).Perm (x :: l)
 | []=>Kd _
 | y :: r=>by
  unfold xQ;split
  ·exact Kd _
  ·exact ((gq x r).cons y).trans (List.Perm.swap ..)
theorem aY:∀ l:List Str,(iK l).Perm l
 | []=>Kd _
 | x :: r=>(gq x _).trans ((aY r).cons x)
theorem pA (x:Str):∀ l:List Str,l.Pairwise (fun a b=>leT a b=true)->(xQ x l).Pairwise fun a b=>leT a b=true
 | [],_=>by simp [xQ]
 | y :: r,h=>by
  obtain ⟨h1,h2⟩:=JM.mp h;unfold xQ;split
  ·rename_i c;refine JM.mpr ⟨fun b hb=>?_,h⟩;rcases Jb.mp hb with rfl | hb
   ·exact c
   ·exact jw c (h1 b hb)
  ·rename_i c;refine JM.mpr ⟨fun b hb=>?_,pA x r h2⟩;rcases Jb.mp ((gq x r).mem_iff.mp hb) with rfl | hb
   ·exact (qo b y).resolve_left c
   ·exact h1 b hb
theorem jd:∀ l:List Str,(iK l).Pairwise fun a b=>leT a b=true
 | []=>by simp [iK]
 | x :: r=>pA x _ (jd r)
theorem j8:∀ (p:Str) (l:List Str),risingS p l=true->(p :: l).Pairwise fun a b=>leT a b=true
 | p,[],_=>by simp
 | p,x :: r,h=>by
  have h:(!ltCps x.cps.toList p.cps.toList&&risingS x r)=true:=h;rw [Jx] at h;have ih:=j8 x r h.2;refine JM.mpr ⟨fun b hb=>?_,ih⟩;rcases Jb.mp hb with rfl | hb
  ·exact h.1
  ·exact jw h.1 ((JM.mp ih).1 b hb)
theorem rK:∀ {l:List Str},sortedS l=true->l.Pairwise fun a b=>leT a b=true
 | [],_=>by simp
 | x :: r,h=>j8 x r h
theorem sM {l l':List Str} (h:sortedS l=true) (p:l.Perm l'):l=iK l' :=
 K6 (fun _ _ _ _ a b=>m7 a b) (rK h) (jd l') (p.trans (aY l').symm)
noncomputable def bP (ss:List Str):List Str:=ss.foldl gQ []
theorem e7 (x:Str):∀ (ss acc:List Str),x∈ss.foldl gQ acc↔x∈acc\/x∈ss
 | [],acc=>by simp
 | y :: r,acc=>by
  rw [List.foldl_cons,e7 x r];have:x∈gQ acc y↔x∈acc\/x=y:=by
   unfold gQ;split
   ·rename_i h;constructor
    ·exact .inl
    ·rintro (h' | rfl)
     ·exact h'
     ·exact h
   ·simp
  rw [this,Jb,or_assoc]
theorem i3 {x:Str} {ss:List Str}:x∈bP ss↔x∈ss:=by
 unfold bP;rw [e7];simp
theorem fc:∀ (ss acc:List Str),(ss.foldl gQ acc).length<=acc.length+ss.length
 | [],acc=>by simp
 | y :: r,acc=>by
  rw [List.foldl_cons];have:=fc r (gQ acc y);have h:(gQ acc y).length<=acc.length+1:=by
   unfold gQ;split
   ·omega
   ·simp
  rw [Jf];omega
theorem jq (ss:List Str):(bP ss).length<=ss.length:=by
 have:=fc ss [];unfold bP;simpa using this
section
variable {pr:Program} {ww:World} {AA:Around} {EE:Value->Shared->Prop} {st:Shared}
theorem zq {d:Addr} {ss:List Str} {Q:Value->Shared->Prop} (hh:AA.handled=none) (hS:b4 pr ww st.heap d ss) (h64:ss.length < 64)
  (h:∀ (out:List Value) h' d' tk p e,StrsAre out (iK ss)->(∀ b o,st.heap.get? b=some o->h'.get? b=some o)->st.heap.objs.size<=p->h'.get? p=some (seqObj "list" out.toArray e)->Q (.ref p) { st with heap:=h',drawn:=d',toks:=tk }) :
  wpAny (model pr ww) AA (call (.builtin "sorted") [.ref d]) Q EE st:=by
 refine Calls.call_function_entry kind_sorted plain_sorted entry_sorted (args_sorted1 _) ?_;unfold Builtin.«sorted»
 refine IF (m:=checkCount "sorted" 1 1 _) (IJ ?_);refine IF (BR hh hS fun vs ss' h1 d1 tk h2 h3 le h4=>?_);have hl:vs.length < 64:=by rw [bj h2,h3.length_eq];exact h64
 refine IF (wpAny_newList ?_ (by rw [J3];omega));have g1:(h1.push (seqObj "list" vs.toArray 0)).get? h1.objs.size=some (seqObj "list" vs.toArray 0):=Jk _ rfl;refine IF (JX (J6 slot_list_sort ⟨_,g1,rfl⟩ entry_list_sort (list_sort_treeK strKind_oneLt g1 h2.keysOf (fun v1 v2 rest e=>keyKind_strs (by rw [<- e];exact h2)) hl fun st' a1 a2=>⟨_,rfl,?_⟩) (args_list_sort _)));obtain ⟨zs,z1,z2,z3⟩:=sorted_out_str h2 a1 a2;have ez:zs=iK ss:=sM z3 (z2.trans h3);rw [ez] at z1;obtain ⟨e,he⟩:=sortedHeap_at (out:=(arrOf st').map (·.2)) (vs:=vs) (n:=0) g1;refine IJ ⟨_,rfl,h _ _ d1 tk h1.objs.size e z1 (fun b o q=>?_) le ?_⟩
 ·have lt:b < h1.objs.size:=Jc (h4 b o q);rw [sortedHeap_old (Js lt) (by rw [size_push'];exact KW lt)];exact IQ _ (h4 b o q)
 ·rw [Array.toArray_toList];exact he
end
end L2
end
section
namespace L2
open PySem PySem.Spec PyProof.Rows
theorem qF:∀ {ds:List PyData} {ss:List Str},strsOf ds=some ss->ds=ss.map .str
 | [],ss,h=>by cases h;rfl
 | d :: ds,ss,h=>by
  unfold strsOf at h;split at h
  ·cases h;rename_i e;cases e
  ·rename_i x r e;cases e;split at h
   ·rename_i xs hx;cases h;rw [qF hx];rfl
   ·cases h
  ·cases h
theorem qC {K:Fg} {F:Addr->Prop} {H:Hp}:∀ {ss:List Str},(∀ s∈ss,s.length<=sizeLine/\PyData.strOk s=true)->DmL K F H (ss.map .str) (ss.map V.str)
 | [],_=>rfl
 | s :: ss,h=>⟨_,_,rfl,⟨rfl,h s IP⟩,qC fun x hx=>h x (IZ _ hx)⟩
theorem wu {K:Fg} {F:Addr->Prop} {H:Hp}:∀ {ss:List Str} {us:List V},DmL K F H (ss.map .str) us->∀ s∈ss,s.length<=sizeLine/\PyData.strOk s=true
 | [],_,_,s,hs=>by cases hs
 | s :: ss,us,h,x,hx=>by
  obtain ⟨v,r,rfl,h1,h2⟩:=h;rcases Jb.mp hx with rfl | hx
  ·exact h1.2
  ·exact wu h2 x hx
noncomputable def Hr:PyData->Option PR
 | .list ds=>match strsOf ds with | some ss=>if ss.length < 64 then some (.frs (.list ((iK ss).map .str))) else none | none=>none
 | _=>none
noncomputable def C2 (X:Cx) (p:Addr) (ss:List Str):HO:=.ext fun h=>b4 X.prog X.w h p ss
noncomputable def Et (X:Cx):List V->Hp->VK->Prop:=fun xs H Q=>∃ (a:Addr) (ss:List Str),xs=[.ref a]/\SqL X.K H a (ss.map V.str)/\ss.length < 1000/\∀ p,H p=none->Q (.ref p) (upd H p (C2 X p (bP ss)))
theorem qP {X:Cx} (hc:X.calm=true):aQ X (.type "set") (Et X):=by
 intro pins s σ H xs us Q I r h;obtain ⟨a,ss,rfl,hq,hl,q⟩:=h;obtain ⟨u,rfl,r1⟩:=vals1 r;cases (show u=Value.ref a from r1);obtain ⟨its,rv,p,hz⟩:=I.list hq;have hS:=g9 rv;have hl2:its.length=ss.length:=by rw [<- rv.length,II]
 refine sH (I.ok.hd hc) p.isList (by simpa using hS) (by show its.toArray.size+1 < 4096;rw [IW];omega) fun h' tk hS' hk=>?_;have hn:H s.heap.objs.size=none:=I.hok.fresh (IY _);refine ⟨.ref s.heap.objs.size,_,I.laid (t':=tk) (o:=C2 X s.heap.objs.size (bP ss)) (fun b o hb=>hk b o (Jc hb) hb) (IY _) ?_,rfl,q _ hn⟩;obtain ⟨ob,es,ep,tb,ho,_⟩:=hS'.size;exact ⟨hS',⟨_,ho⟩,fun h1 h2 z k=>z.at k⟩
noncomputable def B5 (X:Cx):List V->Hp->VK->Prop:=fun xs H Q=>∃ (d:Addr) (ss:List Str),xs=[.ref d]/\H d=some (C2 X d ss)/\ss.length < 64/\∀ p,H p=none->Q (.ref p) (upd H p (.lst ((iK ss).map V.str)))
theorem Inv.drew {X:Cx} {pins:List (Addr×Obj)} {σ:St} {H:Hp} {s:Shared} {d':Drawn} (I:Inv X pins σ H s):Inv X pins σ H { s with drawn:=d' } :=
 ⟨I.ok,I.os,I.bare,I.base,I.loc,I.cell,I.free,I.d4,I.pin,I.hok,I.len⟩
theorem oA {X:Cx} (hc:X.calm=true):aQ X (.builtin "sorted") (B5 X):=by
 intro pins s σ H xs us Q I r h;obtain ⟨d,ss,rfl,hq,h64,q⟩:=h;obtain ⟨u,rfl,r1⟩:=vals1 r;cases (show u=Value.ref d from r1);obtain ⟨hS,_⟩:=I.hok _ _ hq;refine zq (I.ok.hd hc) hS h64 fun out h' d' tk p e ho hk hp hg=>?_;have hn:H p=none:=I.hok.fresh hp;refine ⟨.ref p,_,Inv.drew (d':=d') (I.laid (t':=tk) (o:=.lst ((iK ss).map V.str)) hk hp ?_),rfl,q _ hn⟩;exact ⟨by rw [II,(aY ss).length_eq,J3];omega,out,e,oQ ho,hg⟩
noncomputable def rSS (K:Fg):V->Hp->VK->Prop:=fun x H Q=>∃ (a:Addr) (ss:List Str),x=.ref a/\SqL K H a (ss.map V.str)/\ss.length < 64/\∀ H1 p,aw H H1->H1 p=none->Q (.ref p) (upd H1 p (.lst ((iK (bP ss)).map V.str)))
noncomputable def vh:PyData->Option PR
 | .list ds=>match strsOf ds with | some ss=>if ss.length < 64 then some (.frs (.list ((iK (bP ss)).map .str))) else none | none=>none
 | _=>none
noncomputable def rC:Prm:=Prm.one rSS vh fun K F H x u pr Q hf hx hd q=>by
 unfold vh at hf;split at hf
 ·rename_i ds;split at hf
  ·rename_i ss hss;split at hf
   ·rename_i h64;cases hf;obtain ⟨a,us,rfl,s1,z1,d1⟩:=nG hx;obtain ⟨e,os⟩:=wH hss d1;rw [e] at s1;rw [qF hss] at d1;refine ⟨a,ss,rfl,s1,h64,fun H1 p sm hp=>?_⟩;have hp0:H p=none:=sm.free hp;have dl:DmL K F H ((iK (bP ss)).map .str) ((iK (bP ss)).map V.str):=qC fun s hs=>wu d1 s (i3.mp ((aY _).mem_iff.mp hs));refine q _ _ (sm.trans (aw.nw _ hp)) ?_;refine ⟨p,rfl,hp0,_,ag,?_,(dl.fresh hp0).pr (Pr.of_same (sm.trans (aw.nw _ hp))) fun _ z=>z⟩;rw [II,(aY _).length_eq,J3];have:=jq ss;omega
   ·cases hf
  ·cases hf
 ·cases hf
theorem eSS {X:Cx} {e:Expr} {te:TE} {p1 p2 pos1 pos2:Pos} (hc:X.calm=true) (hg1:Gl X "sorted") (hm1:X.mg "sorted" = none) (hg2:Gl X "set") (hm2:X.mg "set" = none) (h:PySem.W.isStarred e=false) (ha:JE X e te) :
  JE X (.Call (.Name "sorted" p1) [.Call (.Name "set" p2) [e] [] pos2] [] pos1) (tCB (rC.r X.K) (cF te kM)):=by
 let te':TE:=fun σ H P=>∃ P0:VK,te σ H P0/\∀ x H1,P0 x H1->P x H1
 have ha':JE X e te':=⟨fun pins s σ H P I ⟨P0,h0,h1⟩=>JV (ha.h pins s σ H P0 I h0) (fun v s' ⟨x,H',I',r,q⟩=>⟨x,H',I',r,h1 _ _ q⟩) fun _ _ z=>z⟩;have inner:=eTy (p:=p2) (pos:=pos2) (qP hc) hg2 hm2 (by decide +kernel) (eA ha' aj h) h rfl (by decide) rfl;have outer:=eB (p:=p1) (pos:=pos1) (oA hc) hg1 hm1 (by decide +kernel) (eA inner aj rfl) rfl rfl (by decide) rfl;refine ⟨?_⟩;intro pins s σ H Q I hT;refine outer.h pins s σ H Q I ⟨_,hT,fun x H1 z=>?_⟩;have z:rSS X.K x H1 Q:=z;obtain ⟨a,ss,rfl,sq,h64,q⟩:=z;refine ⟨a,ss,rfl,sq,by omega,fun p hp=>?_⟩;refine ⟨p,bP ss,rfl,ag,by have:=jq ss;omega,fun p2 hp2=>?_⟩;exact q _ p2 (aw.nw _ hp) hp2
end L2
end
section
namespace L2
open PySem PySem.Spec PyProof.Rows
section
variable {X:Cx} {pins:List (Addr×Obj)} {σ:St} {H:Hp} {s:Shared}
end
end L2
end
section
namespace L2
open PySem PySem.Spec PyProof.Rows
noncomputable def pK:PyData->List PyData->Option PR
 | .str z,[.str y]=>some (.dat (.bool (decide (y.length<=z.length)&&Builtin.Str.subAt z y 0)))
 | _,_=>none
noncomputable def xc:Mtd where
 T := "str"
 r:=fun _=>pb
 ty:=isS
 f:=pK
 yi:=fun K F H d v h t=>ty_str h t
 ok:=fun K F H d v ds vs pr Q hf hx hv hd q=>by
  unfold pK at hf;split at hf
  ·cases hf;obtain ⟨rfl,_⟩:=vStr hx;obtain ⟨w,r,rfl,hw,rfl⟩:=hv;obtain ⟨rfl,_⟩:=vStr hw;exact ⟨_,_,rfl,rfl,q _ H (aw.rf H) rfl⟩
  ·cases hf
end L2
end
section
namespace L2
open PySem PySem.Spec PyProof.Rows
section
variable {pr:Program} {ww:World} {AA:Around} {EE:Value->Shared->Prop} {st:Shared}
end
section
variable {X:Cx} {o e:Expr} {apos cpos:Pos} {te:TE} {a:Addr} {l:List (Str×Cst)}
end
noncomputable def zp:Prm where
 r:=fun _ vs H Q=>match vs with | []=>∀ p,H p=none->Q (.ref p) (upd H p (.dD 0 [])) | _=>False
 f:=fun ds=>match ds with | []=>some (.frs (.dict [])) | _=>none
 ok:=fun K F H ds vs pr Q hf hv hd q=>by
  match ds,hf with
  | [],hf =>
   cases hf;rw [show vs=[] from hv];exact fun p hp=>q _ _ (aw.nw _ hp) ⟨p,rfl,hp,0,[],ag,JZ _,rfl⟩
end L2
end
section
namespace L2
open PySem PySem.Spec PyProof.Rows
theorem HJ {X:Cx} {e:Expr} {te:TE} {T:String} {p p2 pos:Pos} (hg:Gl X "isinstance") (hm:X.mg "isinstance" = none) (ha:JE X e te) (hs:PySem.W.isStarred e=false) (hb:JE X (.Name (Str.ofString T) p2) (tC (.ty T))):JE X (.Call (.Name "isinstance" p) [e,.Name (Str.ofString T) p2] [] pos) (tCB ((kN T).r X.K) (cF te kM)) :=
 ⟨(eB yZ hg hm (by decide +kernel) (eA ha (eA hb aj rfl) hs) hs rfl (by decide) rfl).h⟩
end L2
end
section
namespace HT
open PySem PySem.Spec PyProof.Rows
section
variable {prog:Program} {w:World} {A:Around} {E:Value->Shared->Prop} {s:Shared}
end
end HT
namespace L2
open PySem PySem.Spec PyProof.Rows
end L2
end
section
namespace L2
open PySem PySem.Spec PyProof.Rows
noncomputable def rJ {α:Type} (xs:List α) (i:Nat) (y:α):List α:=xs.take i++y :: xs.drop i
noncomputable def pj:V->List V->Hp->VK->Prop:=fun x vs H Q=>∃ (l:Addr) (xs:List V) (i:Nat) (y:V),x=.ref l/\vs=[.int i,y]/\H l=some (.lst xs)/\xs.length < sizeLine/\i<=xs.length/\Q .non (upd H l (.lst (rJ xs i y)))
theorem pU {α:Type} {xs:List α} {i:Nat} {y:α} (h:i<=xs.length):(rJ xs i y).length=xs.length+1:=by
 simp [rJ];omega
theorem rY {X:Cx}:MtM X "list.insert" pj:=by
 intro pins s σ H x vs v us Q I rx rv h;obtain ⟨l,xs,i,y,rfl,rfl,hH,hz,hi,q⟩:=h;cases rx;cases rv with
 | cons r1 r2 =>
  cases r2 with
  | cons r2 r3 =>
   cases r3;obtain ⟨t,rfl⟩:=r1;rename_i u;obtain ⟨z,its,n,r,hl,e⟩:=I.C7 hH;have hlen:=r.length;have hs:sizeLine=16777216:=J3;have hc:¬(!Builtin.List.listFitsIndex (i:Int))=true:=by
    have:(i:Int) < 2 ^ 63:=by omega
    simp only [Builtin.List.listFitsIndex];simp;omega
   have hk:(if (i:Int) < 0 then ((i:Int)+(its.toArray.size:Int)).toNat else min ((i:Int)).toNat its.toArray.size)=i:=by
    rw [IU (by omega),Km,IW];omega
   have hz2:its.toArray.size<=sizeLine:=by rw [IW];omega
   generalize (i:Int)=j at hc hk ⊢;refine call_meets F.slot_list_insert ⟨_,e,rfl⟩ F.entry_list_insert (F.args_list_insert_3 _ _ _) (PySem.AutoSeq1.list_insert_list_int_val_1 l its.toArray n j t u hc hz2) ⟨e,?_⟩;refine ⟨.non,_,I.C0 (its':=rJ its i u) (ys:=rJ xs i y) hH e ?_ ((r.take i).append (.cons r2 (r.drop i))) (by rw [pU hi];omega),rfl,q⟩;dsimp only;rw [hk];simp [rJ];exact J7 (by simp)
noncomputable def GO:Mtr where
 T := "list"
 r:=fun _=>pj
 ty:=isL
 f:=fun d as=>match d,as with
  | .list xs,[(_,.int i),(true,x)]=>if xs.length < sizeLine/\0<=i/\i<=xs.length then some (.list (rJ xs i.toNat x),.none) else none
  | _,_=>none
 yi:=fun K F H d a h t=>oN h t
 ok:=fun K F H d a as vs d' x Q hf ha ht hv q=>by
  split at hf
  ·rename_i ds bb i y;split at hf
   ·rename_i hl;cases hf;obtain ⟨xs,ea,z,rx⟩:=ht;have hv2:∃ v,vs=[.int i,v]/\Dm K F H y v:=by
     cases bb with
     | true=>obtain ⟨v1,r1,rfl,h1,v2,r2,rfl,h2,rfl⟩:=hv;exact ⟨v2,by rw [show v1=.int i from h1],h2⟩
     | false=>obtain ⟨v1,r1,rfl,h1,v2,r2,rfl,h2,rfl⟩:=hv;exact ⟨v2,by rw [show v1=.int i from h1],h2⟩
    obtain ⟨v,rfl,hd⟩:=hv2;have hi:i.toNat<=xs.length:=by rw [rx.len];omega
    have e1:((i.toNat:Nat):Int)=i:=Int.toNat_of_nonneg hl.2.1;refine ⟨a,xs,i.toNat,v,rfl,by rw [e1],ea,by rw [rx.len];exact hl.1,hi,q _ _ (fun b o n e=>by rw [ae n];exact e) ⟨_,ag,by rw [pU hi,rx.len];omega,DmL.pr (sR ha ea rfl) (fun _ z=>z) ?_⟩ rfl⟩;have tk:∀ {ds:List PyData} {xs:List V} (n:Nat),DmL K F H ds xs->DmL K F H (ds.take n) (xs.take n)/\DmL K F H (ds.drop n) (xs.drop n):=by
     intro ds;induction ds with
     | nil=>intro xs n h;rw [show xs=[] from h];simp [DmL]
     | cons d ds ih =>
      intro xs n h;obtain ⟨v,r,rfl,h1,h2⟩:=h;cases n with
      | zero=>exact ⟨rfl,v,r,rfl,h1,h2⟩
      | succ n=>exact ⟨⟨v,_,rfl,h1,(ih n h2).1⟩,(ih n h2).2⟩
    exact (tk _ rx).1.app ⟨v,_,rfl,hd,(tk _ rx).2⟩
   ·cases hf
  ·cases hf
end L2
end
section
namespace L2
open PySem
structure Kn where
 nx:En->Prop
 rt:RV->En->Prop
 bk:En->Prop
 ct:En->Prop
noncomputable def Kn.at (E:Kn):Out->Prop | .nx e=>E.nx e | .rt r e=>E.rt r e | .bk e=>E.bk e | .ct e=>E.ct e
noncomputable def WS (gd:List PyData) (s:XS) (env:En) (E:Kn):Prop:=∃ o,dS gd s env=some o/\E.at o
noncomputable def WE (gd:List PyData) (e:XE) (env:En) (Q:RV->En->Prop):Prop:=∃ r e',dE gd e env=some (r,e')/\Q r e'
noncomputable def WA (gd:List PyData) (e:XA) (env:En) (Q:List AV->En->Prop):Prop:=∃ r e',dA gd e env=some (r,e')/\Q r e'
noncomputable def WT (gd:List PyData) (e:XT) (env:En) (Q:Bool->En->Prop):Prop:=∃ r e',dT gd e env=some (r,e')/\Q r e'
noncomputable def WI (gd:List PyData) (e:XI) (env:En) (Q:List PyData->Option Nat->En->Prop):Prop:=∃ ds lk e',dI gd e env=some (ds,lk,e')/\Q ds lk e'
noncomputable def WF (f:Fn) (ds:List PyData) (Q:PR->List PyData->Prop):Prop:=∃ pr outs,f.F ds=some (pr,outs)/\Q pr outs
noncomputable def WPr (p:Prm) (avs:List AV) (e:En) (Q:RV->En->Prop):Prop:=∃ ds pr,aA e avs=some ds/\p.f ds=some pr/\Q pr.rv e
noncomputable def Bn (i:Nat) (r:RV) (e:En) (N:En->Prop):Prop:=∃ d,r.av=.dat d/\free e i=true/\N (e.set i (.dat d))
noncomputable def rQ (i:Nat) (r:RV) (e:En) (N:En->Prop):Prop:=∃ d,r=.frs d/\free e i=true/\N (e.set i (.own d))
noncomputable def Ei (b:PyData->En->Option Out) (ds:List PyData) (lk:Option Nat) (e1:En) (E:Kn):Prop:=∃ o,forL b ds (aX e1 lk)=some o/\E.at (o.map (lkd e1 lk) (ak e1 lk))
noncomputable def n8 (f:Fn) (avs:List AV) (e:En) (Q:RV->En->Prop):Prop:=∃ rv e',uL f avs e=some (rv,e')/\Q rv e'
noncomputable def CP (ms:List PM) (QF:PR->List PyData->Prop) (r:RV) (e:En):Prop:=∃ pr outs,r.pr=some pr/\f6 ms e=some outs/\QF pr outs
noncomputable def tO (ms:List PM) (QF:PR->List PyData->Prop) (e:En):Prop:=∃ outs,f6 ms e=some outs/\QF (.dat .none) outs
noncomputable def y9 (m:uq) (i:Nat) (v:PyData) (rk:RV) (e2:En) (N:En->Prop):Prop:=∃ dk d d',rk.view e2=some dk/\az e2 i=some d/\m.f d dk v=some d'/\N (dQ e2 i d')
noncomputable def C3 (gd:List PyData) (m:uq) (i:Nat) (a:XE) (r:RV) (e:En) (N:En->Prop):Prop:=∃ v,r.av=.dat v/\(az e i).isSome=true/\WE gd a e fun rk e2=>y9 m i v rk e2 N
noncomputable def CV (m:Mtd) (r:RV) (avs:List AV) (e2:En) (Q:RV->En->Prop):Prop:=∃ d ds pr,r.view e2=some d/\aA e2 avs=some ds/\m.f d ds=some pr/\Q pr.rv e2
noncomputable def CI (gd:List PyData) (m:Mtd) (as:XA) (r:RV) (e:En) (Q:RV->En->Prop):Prop:=∃ d0,r.view e=some d0/\m.ty d0=true/\WA gd as e fun avs e2=>CV m r avs e2 Q
noncomputable def WMr (m:Mtr) (i:Nat) (avs:List AV) (e2:En) (Q:RV->En->Prop):Prop:=∃ d ds d' x,az e2 i=some d/\cn e2 avs=some ds/\m.f d ds=some (d',x)/\Q (.dat x) (dQ e2 i d')
noncomputable def WTp (mk:List PyData->RV) (avs:List AV) (e:En) (Q:RV->En->Prop):Prop:=∃ ds,km avs=some ds/\ds.length<=sizeLine/\Q (mk ds) e
noncomputable def C1 (is:List Nat) (r:RV) (e:En) (N:En->Prop):Prop:=∃ ds e2,r.av=.dat (.tuple ds)/\dq e is ds=some e2/\N e2
section
variable {gd:List PyData} {env e1:En} {E:Kn} {Q:RV->En->Prop} {QA:List AV->En->Prop} {QT:Bool->En->Prop} {QI:List PyData->Option Nat->En->Prop} {i:Nat} {d:PyData} {a b c:XE} {as:XA} {s t:XS} {p:Prm} {f:Fn} {x y:XT}
theorem cM {ms:List PM} {n:Nat} {ds:List PyData} {QF:PR->List PyData->Prop} (hl:ds.length=ms.length) (h:WS gd s (ah ms ds n) ⟨tO ms QF,CP ms QF,fun _=>False,fun _=>False⟩):WF (b7 gd ms n s) ds QF:=by
 obtain ⟨o,ho,q⟩:=h;unfold WF b7;simp only;rw [IV hl,ho];cases o with
 | nx e=>obtain ⟨outs,h1,h2⟩:=q;simp only [h1];exact ⟨_,_,rfl,h2⟩
 | rt r e=>obtain ⟨pr,outs,h1,h2,h3⟩:=q;simp only [h1,h2];exact ⟨_,_,rfl,h3⟩
 | bk e=>exact absurd q id
 | ct e=>exact absurd q id
theorem Bh (h:WS gd s env { E with nx:=fun e=>WS gd t e E }):WS gd (.seq s t) env E:=by
 obtain ⟨o,ho,q⟩:=h;unfold WS;simp only [dS,ho];cases o with
 | nx e=>exact q
 | rt r e=>exact ⟨_,rfl,q⟩
 | bk e=>exact ⟨_,rfl,q⟩
 | ct e=>exact ⟨_,rfl,q⟩
theorem wI (h:∀ N:En->Prop,N=(fun e=>WS gd t e E)->WS gd s env { E with nx:=N }):WS gd (.seq s t) env E:=Bh (h _ rfl)
theorem q8 {e:En} {x y:AV} {i:Int} {xs:List PyData} (h1:aA e [x,y]=some [.list xs,.int i]) (h:atI xs i=some d) (q:Q (.dat d) e):WPr ixP [x,y] e Q:=⟨_,.dat d,h1,by show (atI xs i).map PR.dat=_;rw [h];rfl,q⟩
theorem Gd {e:En} {x y:AV} {i:Int} {xs:List PyData} (h1:aA e [x,y]=some [.tuple xs,.int i]) (h:atI xs i=some d) (q:Q (.dat d) e):WPr ixP [x,y] e Q:=⟨_,.dat d,h1,by show (atI xs i).map PR.dat=_;rw [h];rfl,q⟩
theorem FE {e:En} {x y:AV} {i:Int} {z:Str} {c:Nat} (h1:aA e [x,y]=some [.str z,.int i]) (h:atI z.cps.toList i=some c) (q:Q (.dat (.str ⟨#[c]⟩)) e):WPr ixP [x,y] e Q:=⟨_,.dat (.str ⟨#[c]⟩),h1,by show (atI z.cps.toList i).map _=_;rw [h];rfl,q⟩
theorem Bv (h:E.nx env):WS gd .skip env E:=⟨_,rfl,h⟩
theorem E5 (h:E.bk env):WS gd .brk env E:=⟨_,rfl,h⟩
theorem EV (h:E.ct env):WS gd .cnt env E:=⟨_,rfl,h⟩
theorem BI (h:E.rt (.dat .none) env):WS gd .CZ env E:=⟨_,rfl,h⟩
theorem zH (h:WE gd a env fun r e=>Bn i r e E.nx):WS gd (.dg i a) env E:=by
 obtain ⟨r,e',h1,d,h2,h3,h4⟩:=h;unfold WS;simp only [dS,h1,h2];rw [IV h3];exact ⟨_,rfl,h4⟩
theorem AJ (h:WE gd a env fun r e=>rQ i r e E.nx):WS gd (.lD i a) env E:=by
 obtain ⟨r,e',h1,d,rfl,h3,h4⟩:=h;unfold WS;simp only [dS,h1];rw [IV h3];exact ⟨_,rfl,h4⟩
theorem Al {is:List Nat} (h:WE gd a env fun r e=>C1 is r e E.nx):WS gd (.B0 is a) env E:=by
 obtain ⟨r,e',h1,ds,e2,h2,h3,h4⟩:=h;unfold WS;simp only [dS,h1,h2,h3];exact ⟨_,rfl,h4⟩
theorem zC (h:WE gd a env fun _ e=>E.nx e):WS gd (.drop a) env E:=by
 obtain ⟨r,e',h1,h2⟩:=h;unfold WS;simp only [dS,h1];exact ⟨_,rfl,h2⟩
theorem EZ (h:WE gd a env E.rt):WS gd (.ret a) env E:=by
 obtain ⟨r,e',h1,h2⟩:=h;unfold WS;simp only [dS,h1];exact ⟨_,rfl,h2⟩
theorem DR (h:WT gd x env fun b e=>if b=true then WS gd s e E else WS gd t e E):WS gd (.ifs x s t) env E:=by
 obtain ⟨b,e',h1,h2⟩:=h;unfold WS;simp only [dS,h1];cases b with
 | true=>exact h2
 | false=>exact h2
theorem Iz {it:XI} (h:WI gd it env fun ds lk e=>Ei (iE i (dS gd s)) ds lk e E):WS gd (.fr i it s) env E:=by
 obtain ⟨ds,lk,e',h1,o,h2,h3⟩:=h;unfold WS;simp only [dS,h1,h2];exact ⟨_,rfl,h3⟩
theorem Dc {is:List Nat} {it:XI} (h:WI gd it env fun ds lk e=>Ei (gr is (dS gd s)) ds lk e E):WS gd (.frT is it s) env E:=by
 obtain ⟨ds,lk,e',h1,o,h2,h3⟩:=h;unfold WS;simp only [dS,h1,h2];exact ⟨_,rfl,h3⟩
theorem D9 {m:uq} (h:WE gd b env fun r e=>C3 gd m i a r e E.nx):WS gd (.sto m i a b) env E:=by
 obtain ⟨r,e',h1,v,h2,h3,rk,e2,h4,dk,d,d',h5,h6,h7,h8⟩:=h;obtain ⟨d0,hd0⟩:=Option.isSome_iff_exists.mp h3;unfold WS;simp only [dS,h1,h2,hd0,h4,h5,h6,h7];exact ⟨_,rfl,h8⟩
theorem Hs {n:Nat} (Inv:Nat->En->Prop) (m:Nat) (hm:m < n) (h0:Inv m env) (hs:∀ k e,k<=m->Inv k e->WT gd x e fun b e1=>if b=true then WS gd s e1 ⟨fun e2=>∃ j,j < k/\Inv j e2,E.rt,E.nx,fun e2=>∃ j,j < k/\Inv j e2⟩ else E.nx e1):WS gd (.wh n x s) env E:=by
 unfold WS;simp only [dS];induction n generalizing m env with
 | zero=>omega
 | succ n ih =>
  unfold whL;obtain ⟨b,e1,h1,h2⟩:=hs m env (IY _) h0;rw [h1];cases b with
  | false=>exact ⟨_,rfl,h2⟩
  | true =>
   rw [IV rfl] at h2;obtain ⟨o,h3,h4⟩:=h2;simp only [h3];have step:∀ e2,(∃ j,j < m/\Inv j e2)->∃ o,whL (dT gd x) (dS gd s) n e2=some o/\E.at o:=fun e2 ⟨j,hj,hi⟩=>ih j (by omega) hi fun k e hk=>hs k e (by omega);cases o with
   | nx e=>exact step e h4
   | ct e=>exact step e h4
   | bk e=>exact ⟨_,rfl,h4⟩
   | rt r e=>exact ⟨_,rfl,h4⟩
theorem w_var (h:env[i]?=some (.dat d)) (q:Q (.dat d) env):WE gd (.var i) env Q:=⟨_,_,by simp only [dE,h],q⟩
theorem zF (h:env[i]?=some (.own d)) (q:Q (.bor i) env):WE gd (.var i) env Q:=⟨_,_,by simp only [dE,h],q⟩
theorem BV (h:env[i]?=some (.ino d)) (q:Q (.bor i) env):WE gd (.var i) env Q:=⟨_,_,by simp only [dE,h],q⟩
theorem AW (h:env[i]?=some (.ro d)) (q:Q (.bor i) env):WE gd (.var i) env Q:=⟨_,_,by simp only [dE,h],q⟩
theorem Dd (h:env[i]?=some (.own d)) (q:Q (.dat d) (env.set i (.dat d))):WE gd (.mov i) env Q:=⟨_,_,by simp only [dE,h],q⟩
theorem Fs (h:env[i]?=some (.own d)) (q:Q (.frs d) (env.set i .un)):WE gd (.tke i) env Q:=⟨_,_,by simp only [dE,h],q⟩
theorem Ex {c:Cst} (q:Q (.dat c.d) env):WE gd (.cst c) env Q:=⟨_,_,rfl,q⟩
theorem EW {g:Nat} (h:gd[g]?=some d) (q:Q (.dat d) env):WE gd (.glb g) env Q:=⟨_,_,by simp only [dE,h],q⟩
theorem Fl (h:WA gd as env fun avs e=>WPr p avs e Q):WE gd (.prm p as) env Q:=by
 obtain ⟨avs,e',h1,ds,pr,h2,h3,h4⟩:=h;exact ⟨_,_,by simp only [dE,h1,h2,h3],h4⟩
theorem zE (h:WA gd as env fun avs e=>n8 f avs e Q):WE gd (.call f as) env Q:=by
 obtain ⟨avs,e',h1,rv,e2,h2,h3⟩:=h;exact ⟨_,_,by simp only [dE,h1];exact h2,h3⟩
theorem ab {avs:List AV} {ds:List PyData} {is:List Nat} (h1:gU e1 f.ms avs=some ds) (h2:bJ f.ms avs=is) (h:WF f ds fun pr outs=>ckA is (ph f.ms avs) outs.length=true/\Q pr.rv (b6 e1 is outs)):n8 f avs e1 Q:=by
 obtain ⟨pr,outs,h3,h4,h5⟩:=h;subst h2;unfold n8 uL;simp only [h1,h3];rw [IV h4];exact ⟨_,_,rfl,h5⟩
theorem DJ {m:Mtd} {o:XE} (h:WE gd o env fun r e=>CI gd m as r e Q):WE gd (.met m o as) env Q:=by
 obtain ⟨r,e',h1,d0,h2,h3,avs,e2,h4,d,ds,pr,h5,h6,h7,h8⟩:=h;exact ⟨_,_,by simp only [dE,h1,h2];rw [IV h3];simp only [h4,h5,h6,h7],h8⟩
theorem DI {m:Mtr} (h0:az env i=some d) (h1:m.ty d=true) (h:WA gd as env fun avs e2=>WMr m i avs e2 Q):WE gd (.mtr m i as) env Q:=by
 obtain ⟨avs,e2,h4,d,ds,d',x,h5,h6,h7,h8⟩:=h;exact ⟨_,_,by simp only [dE,h0];rw [IV h1];simp only [h4,h5,h6,h7],h8⟩
theorem Ci (h:WA gd as env fun avs e=>WTp (fun ds=>.dat (.tuple ds)) avs e Q):WE gd (.tup as) env Q:=by
 obtain ⟨avs,e2,h4,ds,h5,h6,h7⟩:=h;exact ⟨_,_,by simp only [dE,h4,h5];rw [IV h6],h7⟩
theorem A7 (h:WA gd as env fun avs e=>WTp (fun ds=>.frs (.list ds)) avs e Q):WE gd (.lst as) env Q:=by
 obtain ⟨avs,e2,h4,ds,h5,h6,h7⟩:=h;exact ⟨_,_,by simp only [dE,h4,h5];rw [IV h6],h7⟩
theorem FU (h:WT gd x env fun k e=>if k=true then WE gd a e Q else WE gd b e Q):WE gd (.ifx x a b) env Q:=by
 obtain ⟨k,e',h1,h2⟩:=h;unfold WE;simp only [dE,h1];cases k with
 | true=>exact h2
 | false=>exact h2
theorem zr (h:WE gd a env fun r e=>∃ k,r=.dat (.bool k)/\if k=true then WE gd b e Q else Q (.dat (.bool false)) e):WE gd (.sf a b) env Q:=by
 obtain ⟨r,e',h1,k,rfl,h2⟩:=h;unfold WE;cases k with
 | true=>simp only [dE,h1];exact h2
 | false=>simp only [dE,h1];exact ⟨_,_,rfl,h2⟩
theorem EX (h:WE gd a env fun r e=>∃ k,r=.dat (.bool k)/\if k=true then Q (.dat (.bool true)) e else WE gd b e Q):WE gd (.orv a b) env Q:=by
 obtain ⟨r,e',h1,k,rfl,h2⟩:=h;unfold WE;cases k with
 | true=>simp only [dE,h1];exact ⟨_,_,rfl,h2⟩
 | false=>simp only [dE,h1];exact h2
theorem zB (h:WE gd a env fun r e=>∃ k,r=.dat (.bool k)/\Q (.dat (.bool (!k))) e):WE gd (.zc a) env Q:=by
 obtain ⟨r,e',h1,k,rfl,h2⟩:=h;exact ⟨_,_,by simp only [dE,h1],h2⟩
theorem E1 {p':Prm} (h:WE gd a env fun r e=>WE gd b e fun r2 e2=>∃ x y k,r.av=.dat x/\r2.av=.dat y/\p.f [x,y]=some (.dat (.bool k))/\if k=true then WE gd c e2 fun r3 e3=>∃ z pr,r3.av=.dat z/\p'.f [y,z]=some pr/\Q pr.rv e3 else Q (.dat (.bool false)) e2):WE gd (.chn p p' a b c) env Q:=by
 obtain ⟨r,e',h1,r2,e2,h2,x,y,k,h3,h4,h5,h6⟩:=h;unfold WE;cases k with
 | true =>
  rw [IV rfl] at h6;obtain ⟨r3,e3,h7,z,pr,h8,h9,h10⟩:=h6;simp only [dE,h1,h2,h3,h4,h5,h7,h8,h9];exact ⟨_,_,rfl,h10⟩
 | false =>
  rw [IU (by decide)] at h6;simp only [dE,h1,h2,h3,h4,h5];exact ⟨_,_,rfl,h6⟩
theorem EI {g:Int->Int->Prm} (h:WE gd a env fun r e=>WE gd b e fun r2 e2=>∃ i,r2=.dat (.int i)/\WE gd c e2 fun r3 e3=>∃ j,r3=.dat (.int j)/\∃ d pr,r.view e3=some d/\(g i j).f [d]=some pr/\Q pr.rv e3):WE gd (.sl2 g a b c) env Q:=by
 obtain ⟨r,e',h1,r2,e2,h2,i,rfl,r3,e3,h3,j,rfl,d,pr,h4,h5,h6⟩:=h;exact ⟨_,_,by simp only [dE,h1,h2,h3,h4,h5],h6⟩
noncomputable def vR (st:PyData->En->Option (Option PyData×En)) (js:List Nat) (ds:List PyData) (lk:Option Nat) (e1:En) (Q:RV->En->Prop):Prop :=
 ∃ ys ec,s8 st ds (b5 e1 lk js)=some (ys,ec)/\Q (.frs (.list ys)) (ar e1 js ec)
theorem DY {js:List Nat} {it:XI} (hn:x4 js=true) (h:WI gd it env fun ds lk e1=>vR (bw (dT gd x) (dE gd a)) js ds lk e1 Q):WE gd (.cmp js it x a) env Q:=by
 obtain ⟨ds,lk,e1,h1,ys,ec,h2,h3⟩:=h;refine ⟨_,_,?_,h3⟩;simp only [dE,h1];rw [IV (fx hn),h2]
theorem A4 {n:List Str} {js:List Nat} {it:XI} (hn:x4 js=true) (h:WI gd it env fun ds lk e1=>vR (jj n.length (dE gd a)) js ds lk e1 Q):WE gd (.sW n js it a) env Q:=by
 obtain ⟨ds,lk,e1,h1,ys,ec,h2,h3⟩:=h;refine ⟨_,_,?_,h3⟩;simp only [dE,h1];rw [IV (fx hn),h2]
noncomputable def xW (st:PyData->En->Option (Option PyData×En)) (d:PyData) (ec:En) (Q:Option PyData->En->Prop):Prop:=∃ y e,st d ec=some (y,e)/\Q y e
theorem e8 {QS:Option PyData->En->Prop} {ec:En} (h:WT gd x (.dat d :: ec) fun k e2=>if k=true then WE gd a e2 fun r e3=>∃ y,r.av=.dat y/\QS (some y) e3.tail else QS none e2.tail):xW (bw (dT gd x) (dE gd a)) d ec QS:=by
 obtain ⟨k,e2,h1,h2⟩:=h;unfold xW bw;rw [h1];cases k with
 | true =>
  rw [IV rfl] at h2;obtain ⟨r,e3,h3,y,h4,h5⟩:=h2;simp only [h3,h4];exact ⟨_,_,rfl,h5⟩
 | false =>
  rw [IU (by decide)] at h2;exact ⟨_,_,rfl,h2⟩
theorem cz {st:PyData->En->Option (Option PyData×En)} {js:List Nat} {ds:List PyData} {lk:Option Nat} (Inv:Nat->List PyData->En->Prop) (h0:Inv 0 [] (b5 e1 lk js))
  (hs:∀ i d ys ec,ds[i]?=some d->Inv i ys ec->xW st d ec fun y e=>Inv (i+1) (ys++y.toList) e)
  (hq:∀ ys ec,Inv ds.length ys ec->Q (.frs (.list ys)) (ar e1 js ec)):vR st js ds lk e1 Q:=by
 have key:∀ (rest:List PyData) (i:Nat) (ys:List PyData) (ec:En),ds.drop i=rest->i<=ds.length->Inv i ys ec->∃ zs ec',s8 st rest ec=some (zs,ec')/\Inv ds.length (ys++zs) ec':=by
  intro rest;induction rest with
  | nil =>
   intro i ys ec hd hi hI;have:ds.length<=i:=List.drop_eq_nil_iff.mp hd;have:i=ds.length:=by omega
   subst this;exact ⟨[],ec,rfl,by rw [Jp];exact hI⟩
  | cons d rest ih =>
   intro i ys ec hd hi hI;have hlt:i < ds.length:=by
    apply Kx;intro h;rw [List.drop_eq_nil_iff.mpr (by omega)] at hd;cases hd
   rw [Kg hlt] at hd;injection hd with hd1 hd2;obtain ⟨y,e,h1,h2⟩:=hs i d ys ec (by rw [IG hlt,hd1]) hI;obtain ⟨zs,ec',h3,h4⟩:=ih (i+1) _ e hd2 hlt h2;refine ⟨y.toList++zs,ec',?_,by rw [<- Jn];exact h4⟩;unfold s8;simp only [h1,h3]
 obtain ⟨zs,ec,h1,h2⟩:=key ds 0 [] _ rfl (JZ _) h0;exact ⟨zs,ec,h1,hq zs ec h2⟩
noncomputable def WB (b:PyData->En->Option Out) (d:PyData) (e:En) (E:Kn):Prop:=∃ o,b d e=some o/\E.at o
theorem EK {e:En} (hf:free e i=true) (h:WS gd s (e.set i (.dat d)) E):WB (iE i (dS gd s)) d e E:=by
 obtain ⟨o,h1,h2⟩:=h;exact ⟨o,by unfold iE;rw [IV hf];exact h1,h2⟩
theorem zi {e e2:En} {is:List Nat} {xs:List PyData} (hf:dq e is xs=some e2) (h:WS gd s e2 E):WB (gr is (dS gd s)) (.tuple xs) e E:=by
 obtain ⟨o,h1,h2⟩:=h;exact ⟨o,by unfold gr;simp only [hf];exact h1,h2⟩
theorem bg {b:PyData->En->Option Out} {ds:List PyData} {lk:Option Nat} (Inv:Nat->En->Prop) (h0:Inv 0 (aX e1 lk))
  (hs:∀ i d e,ds[i]?=some d->Inv i e->WB b d e ⟨Inv (i+1),fun r e=>E.rt (r.soft (lkd e1 lk)) (ak e1 lk e),fun e=>E.nx (ak e1 lk e),Inv (i+1)⟩)
  (hq:∀ e,Inv ds.length e->E.nx (ak e1 lk e)):Ei b ds lk e1 E:=by
 have key:∀ (rest:List PyData) (i:Nat) (e:En),ds.drop i=rest->i<=ds.length->Inv i e->∃ o,forL b rest e=some o/\E.at (o.map (lkd e1 lk) (ak e1 lk)):=by
  intro rest;induction rest with
  | nil =>
   intro i e hd hi hI;have:ds.length<=i:=List.drop_eq_nil_iff.mp hd;have:i=ds.length:=by omega
   subst this;exact ⟨_,rfl,hq e hI⟩
  | cons d rest ih =>
   intro i e hd hi hI;have hlt:i < ds.length:=by
    apply Kx;intro h;rw [List.drop_eq_nil_iff.mpr (by omega)] at hd;cases hd
   rw [Kg hlt] at hd;injection hd with hd1 hd2;obtain ⟨o,h1,h2⟩:=hs i d e (by rw [IG hlt,hd1]) hI;unfold forL;simp only [h1];cases o with
   | nx e'=>exact ih (i+1) e' hd2 hlt h2
   | ct e'=>exact ih (i+1) e' hd2 hlt h2
   | bk e'=>exact ⟨_,rfl,h2⟩
   | rt r e'=>exact ⟨_,rfl,h2⟩
 exact key ds 0 _ rfl (JZ _) h0
theorem De (q:QA [] env):WA gd .nil env QA:=⟨_,_,rfl,q⟩
theorem B6 (h:WE gd a env fun r e=>WA gd as e fun avs e2=>QA (r.av :: avs) e2):WA gd (.cons a as) env QA:=by
 obtain ⟨r,e',h1,avs,e2,h2,h3⟩:=h;exact ⟨_,_,by simp only [dA,h1,h2],h3⟩
theorem DA (h:WE gd a env fun r e=>∃ k,r=.dat (.bool k)/\QT k e):WT gd (.tst a) env QT:=by
 obtain ⟨r,e',h1,k,rfl,h2⟩:=h;exact ⟨_,_,by simp only [dT,h1],h2⟩
theorem Fm (h:WE gd a env fun r e=>∃ d,r.view e=some d/\D0 d=false/\QT (FD d) e):WT gd (.tru a) env QT:=by
 obtain ⟨r,e',h1,d,h2,h4,h3⟩:=h;exact ⟨_,e',by simp only [dT,h1,h2,h4];rfl,h3⟩
theorem w_and (h:WT gd x env fun k e=>if k=true then WT gd y e QT else QT false e):WT gd (.and x y) env QT:=by
 obtain ⟨k,e',h1,h2⟩:=h;unfold WT;cases k with
 | true=>simp only [dT,h1];exact h2
 | false=>simp only [dT,h1];exact ⟨_,_,rfl,h2⟩
theorem w_or (h:WT gd x env fun k e=>if k=true then QT true e else WT gd y e QT):WT gd (.or x y) env QT:=by
 obtain ⟨k,e',h1,h2⟩:=h;unfold WT;cases k with
 | true=>simp only [dT,h1];exact ⟨_,_,rfl,h2⟩
 | false=>simp only [dT,h1];exact h2
theorem w_not (h:WT gd x env fun k e=>QT (!k) e):WT gd (.not x) env QT:=by
 obtain ⟨k,e',h1,h2⟩:=h;exact ⟨_,_,by simp only [dT,h1],h2⟩
theorem Dg (h:QT true env):WT gd .yes env QT:=⟨_,_,rfl,h⟩
noncomputable def ze (r:RV) (e:En) (QI:List PyData->Option Nat->En->Prop):Prop:=(∃ ds,r.av=.dat (.list ds)/\QI ds none e)\/∃ i ds,r.av=.bor i/\cont e i=some (.list ds)/\QI ds (some i) e
theorem Ht (h:WE gd a env fun r e=>ze r e QI):WI gd (.lst a) env QI:=by
 obtain ⟨r,e',h1,⟨ds,h2,h3⟩ | ⟨i,ds,h2,h3,h4⟩⟩:=h
 ·exact ⟨_,_,_,by simp only [dI,h1,h2],h3⟩
 ·exact ⟨_,_,_,by simp only [dI,h1,h2,h3],h4⟩
theorem fg {r:RV} {e:En} {ds:List PyData} (h:r.av=.dat (.list ds)) (q:QI ds none e):ze r e QI:=.inl ⟨ds,h,q⟩
theorem EN {r:RV} {e:En} {ds:List PyData} (h:r.av=.bor i) (hc:cont e i=some (.list ds)) (q:QI ds (some i) e):ze r e QI:=.inr ⟨i,ds,h,hc,q⟩
theorem Iv (h:WE gd a env fun r e=>∃ ds,r.av=.dat (.tuple ds)/\QI ds none e):WI gd (.tup a) env QI:=by
 obtain ⟨r,e',h1,ds,h2,h3⟩:=h;exact ⟨_,_,_,by simp only [dI,h1,h2],h3⟩
noncomputable def WSq (r:RV) (e:En) (QI:List PyData->Option Nat->En->Prop):Prop:=ze r e QI\/∃ ds,r.av=.dat (.tuple ds)/\QI ds none e
theorem HC (h:WE gd a env fun r e=>WSq r e QI):WI gd (.sq a) env QI:=by
 obtain ⟨r,e',h1,(⟨ds,h2,h3⟩ | ⟨i,ds,h2,h3,h4⟩) | ⟨ds,h2,h3⟩⟩:=h
 ·exact ⟨_,_,_,by simp only [dI,h1,h2],h3⟩
 ·exact ⟨_,_,_,by simp only [dI,h1,h2,h3],h4⟩
 ·exact ⟨_,_,_,by simp only [dI,h1,h2],h3⟩
theorem Iw (h:WE gd a env fun r e=>∃ z,r.av=.dat (.str z)/\QI (z.cps.toList.map fun c=>.str ⟨#[c]⟩) none e):WI gd (.str a) env QI:=by
 obtain ⟨r,e',h1,ds,h2,h3⟩:=h;exact ⟨_,_,_,by simp only [dI,h1,h2],h3⟩
theorem Hk (h:WA gd as env fun avs e=>∃ j:Int,avs=[.dat (.int j)]/\(-(2 ^ 62)<=j/\j<=2 ^ 24)/\QI ((List.range j.toNat).map fun (k:Nat)=>.int ((0:Int)+(k:Int))) none e):WI gd (.rng1 as) env QI:=by
 obtain ⟨r,e',h1,j,rfl,h2,h3⟩:=h;exact ⟨_,_,_,by simp only [dI,h1];rw [IV h2],h3⟩
end
end L2
end
section
namespace L2
open PySem
theorem uM {e:En} {i:Nat} {s:Sl} (h:e[i]?=some s) (q:soft s):free e i=true:=by
 unfold free;rw [h];cases s with
 | ino d=>exact absurd rfl (q.1 d)
 | ro d=>exact absurd rfl (q.2 d)
 | _=>rfl
theorem D6:soft .un:=⟨fun _=>nofun,fun _=>nofun⟩
theorem Fi {d:PyData}:soft (.dat d):=⟨fun _=>nofun,fun _=>nofun⟩
theorem DE {d:PyData}:soft (.own d):=⟨fun _=>nofun,fun _=>nofun⟩
theorem vi {e:En} {i:Nat} {avs:List AV} {xs:List PyData} {d:PyData} {Q:RV->En->Prop} (h1:az e i=some (.list xs)) (h2:xs.length < sizeLine) (h3:cn e avs=some [(true,d)]) (q:Q (.dat .none) (dQ e i (.list (xs++[d])))):WMr Cq i avs e Q :=
 ⟨_,_,.list (xs++[d]),.none,h1,h3,by show (if xs.length < sizeLine then _ else _)=_;rw [IV h2],q⟩
theorem kU:∀ (ss:List Str),strsOf (ss.map .str)=some ss
 | []=>rfl
 | s :: ss=>by simp only [List.map_cons,strsOf,kU ss]
theorem qm {e:En} {x y:AV} {xs ys:List PyData} {Q:RV->En->Prop} (h1:aA e [x,y]=some [.list xs,.list ys]) (h2:xs.length+ys.length<=sizeLine) (q:Q (.frs (.list (xs++ys))) e):WPr jt [x,y] e Q :=
 ⟨_,.frs (.list (xs++ys)),h1,by show (if xs.length+ys.length<=sizeLine then _ else _)=_;rw [IV h2],q⟩
theorem vA {e:En} {x y:AV} {xs ys:Str} {Q:RV->En->Prop} (h1:aA e [x,y]=some [.str xs,.str ys]) (h2:xs.length+ys.length<=sizeLine) (q:Q (.dat (.str (xs++ys))) e):WPr jt [x,y] e Q :=
 ⟨_,.dat (.str (xs++ys)),h1,by show (if xs.length+ys.length<=sizeLine then _ else _)=_;rw [IV h2],q⟩
theorem w_eq {e:En} {x y:AV} {d d':PyData} {Q:RV->En->Prop} (h1:aA e [x,y]=some [d,d']) (h2:fm d=true) (h3:fm d'=true) (q:Q (.dat (.bool (PyData.eqv d d'))) e):WPr eqP [x,y] e Q :=
 ⟨_,.dat (.bool (PyData.eqv d d')),h1,by show (if fm d=true/\fm d'=true then _ else _)=_;rw [IV ⟨h2,h3⟩];rfl,q⟩
theorem HU {e:En} {x y:AV} {d d':PyData} {Q:RV->En->Prop} (h1:aA e [x,y]=some [d,d']) (h2:fm d=true) (h3:fm d'=true) (q:Q (.dat (.bool (!PyData.eqv d d'))) e):WPr neP [x,y] e Q :=
 ⟨_,.dat (.bool (!PyData.eqv d d')),h1,by show (if fm d=true/\fm d'=true then _ else _)=_;rw [IV ⟨h2,h3⟩];rfl,q⟩
theorem AD {i:Nat} {v:PyData} {rk:RV} {e2:En} {N:En->Prop} {k:Int} {xs:List PyData} (h1:rk.view e2=some (.int k)) (h2:az e2 i=some (.list xs)) (h3:0<=k) (h4:k < xs.length) (q:N (dQ e2 i (.list (xs.set k.toNat v)))):y9 zt i v rk e2 N:=by
 refine ⟨_,_,.list (xs.set k.toNat v),h1,h2,?_,q⟩;show (ixN xs.length k).map _=_;unfold ixN;rw [IV h3,IV h4];rfl
theorem qI {n i:Nat} {d:PyData} (h:((List.range n).map fun (k:Nat)=>PyData.int ((0:Int)+(k:Int)))[i]?=some d):d=.int i/\i < n:=by
 rw [IX] at h;cases q:(List.range n)[i]? with
 | none=>rw [q] at h;cases h
 | some j =>
  rw [q] at h;obtain ⟨hi,e⟩:=IK.mp q;rw [J9] at hi;have:j=i:=by rw [<- e];simp
  subst this;cases h;exact ⟨by simp,hi⟩
theorem oW {n:Nat}:((List.range n).map fun (k:Nat)=>PyData.int ((0:Int)+(k:Int))).length=n:=by rw [II,J9]
theorem atV {α:Type} {xs:List α} {r:Int} (h0:0<=r) (h1:r < xs.length):∃ v,v∈xs/\atI xs r=some v:=by
 have hj:r.toNat < xs.length:=by omega
 have ej:r=((r.toNat:Nat):Int):=by omega
 refine ⟨xs[r.toNat],LR hj,?_⟩;have:=pv (xs:=xs) (j:=r.toNat) (v:=xs[r.toNat]) (IG hj);rw [<- ej] at this;exact this
theorem hZ:∀ (ss:List Str),strsOf (ss.map .str)=some ss
 | []=>rfl
 | s :: ss=>by simp only [List.map_cons,strsOf,hZ ss]
theorem vb {α:Type} {xs:List α} {k:Int} (h:0<=k):cutD xs none (some k)=xs.take k.toNat:=by
 unfold cutD;simp only [HT.sIx,List.drop_zero,Nat.sub_zero];rw [IU (by omega)];by_cases z:k.toNat<=xs.length
 ·congr 1;omega
 ·rw [J7 (by omega),J7 (by omega)]
theorem d5 (x:Str):x.cps.toList.length=x.length:=by simp [Str.length]
mutual
theorem eqv_refl:∀ d:PyData,noD d=true->PyData.eqv d d=true
 | .none,_=>by simp [PyData.eqv]
 | .bool b,_=>by simp [PyData.eqv]
 | .int i,_=>by simp [PyData.eqv]
 | .str x,_=>by simp [PyData.eqv]
 | .list xs,h=>by simpa [PyData.eqv] using eqvAll_refl xs (by simpa [noD] using h)
 | .tuple xs,h=>by simpa [PyData.eqv] using eqvAll_refl xs (by simpa [noD] using h)
 | .dict _,h=>by simp [noD] at h
theorem eqvAll_refl:∀ ds:List PyData,cj ds=true->PyData.eqvAll ds ds=true
 | [],_=>by simp [PyData.eqvAll]
 | d :: ds,h=>by
  have h':noD d=true/\cj ds=true:=by simpa [cj] using h
  simp [PyData.eqvAll,eqv_refl d h'.1,eqvAll_refl ds h'.2]
end
theorem fz:∀ {ds:List PyData},cj ds=true↔∀ d∈ds,noD d=true
 | []=>by simp [cj]
 | d :: ds=>by simp [cj,fz (ds:=ds)]
theorem c6 {k:Nat}:∀ {ds:List PyData},(∀ d∈ds,d.depth<=k)->PyData.depthAll ds<=k
 | [],_=>by simp [PyData.depthAll]
 | d :: ds,h=>by
  have h1:=h d IP;have h2:=c6 fun x hx=>h x (IZ _ hx);simp only [PyData.depthAll];omega
theorem nE {k:Nat} {ds:List PyData} (h:∀ d∈ds,d.depth<=k):(PyData.list ds).depth<=k+1:=by
 simp only [PyData.depth];have:=c6 h;omega
theorem kX {k:Nat} {ds:List PyData} (h:∀ d∈ds,d.depth<=k):(PyData.tuple ds).depth<=k+1:=by
 simp only [PyData.depth];have:=c6 h;omega
theorem qa {d:PyData} (h1:noD d=true) (h2:d.depth<=64):fm d=true:=by simp [fm,h1,h2]
end L2
end
section
namespace L2
open PySem
section
variable {gd:List PyData} {env e1:En} {Q:RV->En->Prop} {a:XE} {as:XA}
end
end L2
end
section
namespace L2
open PySem PySem.Spec PyProof.Rows
theorem vq {e:En} {x:AV} {ss:List Str} {Q:RV->En->Prop} (h1:aA e [x]=some [.list (ss.map .str)]) (h2:ss.length < 64) (q:Q (.frs (.list ((iK (bP ss)).map .str))) e):WPr rC [x] e Q:=by
 refine ⟨_,.frs (.list ((iK (bP ss)).map .str)),h1,?_,q⟩;show vh (.list (ss.map .str))=_;unfold vh;simp only [hZ];rw [IV h2]
theorem iC:∀ bs:List Bool,gP (bs.map .bool)=some bs
 | []=>rfl
 | b :: bs=>by
  rw [List.map_cons];unfold gP;rw [iC bs]
theorem oh {acc:List Str} {x:Str} (h:acc.Nodup):(gQ acc x).Nodup:=by
 unfold gQ;split
 ·exact h
 ·rename_i hx;refine JL.mpr ⟨h,by simp,fun a ha b hb=>?_⟩;rw [Ja.mp hb];exact fun z=>hx (z▸ha)
theorem ig:∀ (ss acc:List Str),acc.Nodup->(ss.foldl gQ acc).Nodup
 | [],acc,h=>h
 | y :: r,acc,h=>ig r _ (oh h)
theorem iJ (ss:List Str):(bP ss).Nodup:=ig ss [] List.nodup_nil
end L2
end
section
namespace L2
open PySem PySem.Spec PyProof.Rows
noncomputable def jU:List (Option Sl)->En->Prop
 | [],e=>e=[]
 | some s :: r,e=>∃ e',jU r e'/\e=s :: e'
 | none :: r,e=>∃ x e',soft x/\jU r e'/\e=x :: e'
noncomputable def vf:List (Option Sl)->(En->Prop)->Prop
 | [],P=>P []
 | some s :: ts,P=>vf ts fun e=>P (s :: e)
 | none :: ts,P=>∀ s,soft s->vf ts fun e=>P (s :: e)
theorem jU.out:∀ {ts:List (Option Sl)} {e:En} {P:En->Prop},jU ts e->vf ts P->P e
 | [],_,_,h,q=>by cases (show _=_ from h);exact q
 | some s :: ts,e,P,h,q=>by obtain ⟨r,hr,rfl⟩:=h;exact hr.out (P:=fun e=>P (s :: e)) q
 | none :: ts,e,P,h,q=>by obtain ⟨s,r,hs,hr,rfl⟩:=h;exact hr.out (P:=fun e=>P (s :: e)) (q s hs)
section
variable {gd:List PyData} {e e':En} {E:Kn} {Q:RV->En->Prop} {QA:List AV->En->Prop} {QT:Bool->En->Prop} {QI:List PyData->Option Nat->En->Prop} {N:En->Prop} {i:Nat} {r:RV}
theorem A5 (h:e=e') (q:Bn i r e' N):Bn i r e N:=h▸q
theorem xx (h:e=e') (q:rQ i r e' N):rQ i r e N:=h▸q
theorem An {is:List Nat} (h:e=e') (q:C1 is r e' N):C1 is r e N:=h▸q
theorem Ig {as:XA} (h:e=e') (q:WA gd as e' QA):WA gd as e QA:=h▸q
theorem IC {a:XE} (h:e=e') (q:WE gd a e' Q):WE gd a e Q:=h▸q
theorem HF {s:XS} (h:e=e') (q:WS gd s e' E):WS gd s e E:=h▸q
theorem Ir {t:XT} (h:e=e') (q:WT gd t e' QT):WT gd t e QT:=h▸q
theorem H0 {t:XI} (h:e=e') (q:WI gd t e' QI):WI gd t e QI:=h▸q
theorem D2 {p:Prm} {avs:List AV} (h:e=e') (q:WPr p avs e' Q):WPr p avs e Q:=h▸q
theorem xg {f:Fn} {avs:List AV} (h:e=e') (q:n8 f avs e' Q):n8 f avs e Q:=h▸q
theorem Dr {mk:List PyData->RV} {avs:List AV} (h:e=e') (q:WTp mk avs e' Q):WTp mk avs e Q:=h▸q
theorem Dy {m:Mtr} {avs:List AV} (h:e=e') (q:WMr m i avs e' Q):WMr m i avs e Q:=h▸q
theorem DT {m:Mtd} {avs:List AV} (h:e=e') (q:CV m r avs e' Q):CV m r avs e Q:=h▸q
theorem Bx {m:Mtd} {as:XA} (h:e=e') (q:CI gd m as r e' Q):CI gd m as r e Q:=h▸q
theorem BF {ms:List PM} {QF:PR->List PyData->Prop} (h:e=e') (q:CP ms QF r e'):CP ms QF r e:=h▸q
theorem xt {ms:List PM} {QF:PR->List PyData->Prop} (h:e=e') (q:tO ms QF e'):tO ms QF e:=h▸q
theorem Bw (h:e=e') (q:ze r e' QI):ze r e QI:=h▸q
theorem B8 {m:uq} {a:XE} (h:e=e') (q:C3 gd m i a r e' N):C3 gd m i a r e N:=h▸q
theorem Aq {m:uq} {v:PyData} (h:e=e') (q:y9 m i v r e' N):y9 m i v r e N:=h▸q
end
theorem isEq {b:Bool} {avs:List AV} {e:En} {Q:RV->En->Prop} (h:WPr (CU b) avs e Q):WPr (CU b) avs e Q:=h
theorem nX {env e2:En} {i:Nat} {is:List Nat} {d:PyData} {ds:List PyData} (h:free env i=true) (q:dq (env.set i (.dat d)) is ds=some e2):dq env (i :: is) (d :: ds)=some e2:=by
 simp only [dq];rw [IV h];exact q
theorem at0 {x:PyData} {xs:List PyData}:atI (x :: xs) 0=some x:=by
 unfold atI ixN;rw [IV (Int.le_refl _),IV (by rw [Jf];omega)];rfl
theorem tM {e:En} {x y:AV} {d:PyData} {Q:RV->En->Prop} (h1:aA e [x,y]=some [d,d]) (h2:fm d=true) (q:Q (.dat (.bool false)) e):WPr neP [x,y] e Q :=
 HU h1 h2 h2 (by rw [eqv_refl d (by have:=h2;simp only [fm,Jx] at this;exact this.1)];exact q)
noncomputable def Hf (p:Prm) (r r2:RV) (k:PyData->Bool->Prop):Prop:=∃ x y b,r.av=.dat x/\r2.av=.dat y/\p.f [x,y]=some (.dat (.bool b))/\k y b
noncomputable def GH (p:Prm) (y:PyData) (r:RV) (e:En) (Q:RV->En->Prop):Prop:=∃ z pr,r.av=.dat z/\p.f [y,z]=some pr/\Q pr.rv e
theorem zT {gd:List PyData} {env:En} {p p':Prm} {a b c:XE} {Q:RV->En->Prop} (h:WE gd a env fun r e=>WE gd b e fun r2 e2=>Hf p r r2 fun y k=>if k=true then WE gd c e2 fun r3 e3=>GH p' y r3 e3 Q else Q (.dat (.bool false)) e2):WE gd (.chn p p' a b c) env Q:=by
 refine E1 ?_;obtain ⟨r,e,h1,r2,e2,h2,x,y,k,h3,h4,h5,h6⟩:=h;exact ⟨r,e,h1,r2,e2,h2,x,y,k,h3,h4,h5,h6⟩
theorem w_all {e:En} {x:AV} {bs:List Bool} {Q:RV->En->Prop} (h1:aA e [x]=some [.list (bs.map .bool)]) (q:Q (.dat (.bool (bs.all id))) e):WPr CQ [x] e Q:=by
 refine ⟨_,.dat (.bool (bs.all id)),h1,?_,q⟩;show (gP (bs.map .bool)).map _=_;rw [iC];rfl
theorem KL {α:Type} {xs:List α} {i:Nat} {x:α} (h:xs[i]?=some x):xs.take i++[x]=xs.take (i+1):=by
 rw [List.take_add_one,h];rfl
theorem my {α:Type} {P:α->Prop} {xs:List α} {y:α} (h:∀ x∈xs,P x) (hy:P y):∀ x∈xs++[y],P x:=fun x hm=>by
 rcases Jv.mp hm with hm | hm
 ·exact h x hm
 ·rw [Ja.mp hm];exact hy
end L2
end
section
namespace L2
open PySem PySem.Spec PyProof.Rows
section
variable {gd:List PyData} {a:XE} {env:En} {QI:List PyData->Option Nat->En->Prop}
noncomputable def HR (r:RV) (e:En) (QI:List PyData->Option Nat->En->Prop):Prop:=(∃ kvs,r.av=.dat (.dict kvs)/\QI (kvs.map (·.1)) none e)\/∃ i kvs,r.av=.bor i/\cont e i=some (.dict kvs)/\QI (kvs.map (·.1)) (some i) e
theorem Hz (h:WE gd a env fun r e=>HR r e QI):WI gd (.dct a) env QI:=by
 obtain ⟨r,e',h1,⟨kvs,h2,h3⟩ | ⟨i,kvs,h2,h4,h3⟩⟩:=h
 ·exact ⟨_,_,_,by simp only [dI,h1,h2],h3⟩
 ·exact ⟨_,_,_,by simp only [dI,h1,h2,h4],h3⟩
end
theorem wJ {i:Nat} {v k:PyData} {rk:RV} {e2:En} {N:En->Prop} {kvs:List (PyData×PyData)} (h1:rk.view e2=some k) (h2:az e2 i=some (.dict kvs)) (h3:hk6 k=true) (h4:kvs.length < sizeLine) (q:N (dQ e2 i (.dict (putD kvs k v)))):y9 lB i v rk e2 N :=
 ⟨_,_,_,h1,h2,by show (if hk6 k=true/\kvs.length < sizeLine then some (PyData.dict (putD kvs k v)) else none)=_;rw [IV ⟨h3,h4⟩],q⟩
theorem FG {e:En} {i:Nat} {avs:List AV} {xs:List PyData} {d:PyData} {j:Int} {b:Bool} {Q:RV->En->Prop} (h1:az e i=some (.list xs)) (h2:xs.length < sizeLine) (h3:cn e avs=some [(b,.int j),(true,d)]) (h4:0<=j) (h5:j<=xs.length) (q:Q (.dat .none) (dQ e i (.list (rJ xs j.toNat d)))):WMr GO i avs e Q :=
 ⟨_,_,_,_,h1,h3,by show (if xs.length < sizeLine/\0<=j/\j<=xs.length then some (PyData.list (rJ xs j.toNat d),PyData.none) else none)=_;rw [IV ⟨h2,h4,h5⟩],q⟩
end L2
end
section
namespace L2
open PySem PySem.Spec PyProof.Rows PySem.W
structure Ord (lt:Nat->Nat->Bool) (n:Nat):Prop where
 irr:∀ i,lt i i=false
 tr:∀ i j k,lt i j=true->lt j k=true->lt i k=true
 tot:∀ i j,i < n->j < n->i≠j->lt i j=false->lt j i=true
noncomputable def at_ (p:Array Nat) (i:Nat):Nat:=p.getD i 0
noncomputable def Up (lt:Nat->Nat->Bool) (p:Array Nat) (m:Nat):Prop:=∀ i,i+1 < m->lt (at_ p i) (at_ p (i+1))=true
section
variable {lt:Nat->Nat->Bool} {n:Nat} {p:Array Nat}
noncomputable def Pm (n:Nat) (p:Array Nat):Prop:=p.Perm (List.range n).toArray
theorem Pm.size (h:Pm n p):p.size=n:=by
 have:=Array.Perm.size_eq h;simpa using this
theorem Up.all (O:Ord lt n) {m:Nat} (h:Up lt p m) {i j:Nat} (hij:i < j) (hj:j < m):lt (at_ p i) (at_ p j)=true:=by
 induction j with
 | zero=>omega
 | succ j ih =>
  by_cases e:i=j
  ·subst e;exact h i hj
  ·exact O.tr _ _ _ (ih (by omega) (by omega)) (h j hj)
end
end L2
end
section
namespace L2
open PySem PySem.Spec PyProof.Rows PySem.W
section
variable {P:Program} {w:World} {A:Around} {E:Value->Shared->Prop} {s:Shared} {d:Addr} {es:Array DictEntry} {ep:Nat}
noncomputable def OkD (d:Addr) (es:Array DictEntry) (ep:Nat) (h:Heap):Prop:=∃ od,h.get? d=some od/\od.ExactDict/\od.data=.dict es ep
noncomputable def E4 (es:Array DictEntry) (i:Nat) (v:Value):Prop:=∃ e,es[i]?=some e/\v=e.key
theorem BP (hh:A.handled=none) (I:Addr) (hne:d≠I):Walks P w A I [I,d] [I] es.size (E4 es) (fun i h=>h.IsKeyIter I d i es.size ep/\OkD d es ep h) where
 sub:=fun b hb=>by simp at hb;simp [hb]
 frame:=fun _ _ _ st hk=>⟨st.1.at fun o e=>hk I (by simp) o e,let ⟨od,g,r⟩:=st.2;⟨od,hk d (by simp) _ g,r⟩⟩
 item:=fun i s Q E hi st hQ=>by
  obtain ⟨it,od,g1,g2,g3⟩:=st;refine CA it g1 g3 (JK hi) fun h' it' sb=>?_;exact hQ _ h' s.toks ⟨_,JK hi,rfl⟩ ⟨it',od,(sb.2 d hne).trans g1,g2,g3⟩ fun b o hb e=>(sb.2 b (fun z=>hb (by simp [z]))).trans e
 done:=fun s Q E st hQ=>by
  obtain ⟨it,od,g1,g2,g3⟩:=st;exact Eg hh it g1 g3 (IY _) fun h' eb=>hQ h' s.toks fun b o hb e=>eb b o (fun z=>hb (by simp [z])) e
 self:=fun _ _ _ _ st hQ=>wpAny_pyIter_keyiter st.1 hQ
theorem HP (lo:(d==sysModules)=false):KdlSrc P w "dict" d d es.size (E4 es) (OkD d es ep) where
 type:=fun _ ⟨od,g1,g2,_⟩=>⟨od,g1,g2.1⟩
 there:=fun _ ⟨od,g1,_⟩=>⟨Jc g1,Jc g1⟩
 keep:=fun _ _ ⟨od,g1,r⟩ hk=>⟨od,hk d (.inl rfl) _ g1,r⟩
 notList:=by decide
 notTuple:=by decide
 hint:=fun _ _ _ _ ⟨od,g1,g2,_⟩ hq=>kdl_hint_dict ⟨od,g1,g2.1⟩ hq
 iter:=fun _ s hh ⟨od,g1,g2,g3⟩=>⟨_,_,(fun _ _ hq=>Bp lo g1 g2 g3 hq),BP hh _ (Js (Jc g1)),⟨⟨_,Jk _ rfl,rfl,rfl⟩,od,IQ _ g1,g2,g3⟩⟩
theorem FZ {R:Result->Shared->Prop} (hh:A.handled=none) (lo:(d==sysModules)=false) (ok:OkD d es ep s.heap) (hz:es.size<=sizeLine) {S:Addr} (ne:S≠d) (gS:s.heap.get? S=some { cls:=.type "list", data:=.seq #[] })
  (h:∀ h' tk acc' c',(∀ b o,b≠S->s.heap.get? b=some o->h'.get? b=some o)->h'.get? S=some { cls:=.type "list", dict:=none,data:=.seq acc' c',slots:=#[] }->ItemsOf (E4 es) acc' es.size->R (.ok (.ret (.ref S))) { s with heap:=h',toks:=tk }) :
  codeAny (model P w) A (.builtin "list.__iadd__" ⟨[.ref S,.ref d],[]⟩) R s:=by
 refine KJ F.entry_list_iadd ?_;rw [KC F.plain_list_iadd _];show wpAny _ A.in1 (Builtin.List.listExtendWith (.ref S) (.ref d) (.ref S)) _ _ _;exact kdl_extend (HP lo) hh ok S ne ne (.ref S) 0 gS h hz
theorem E8 {Q:List Value->Shared->Prop} (hh:A.handled=none) (lo:(d==sysModules)=false) (ok:OkD d es ep s.heap) (hz:es.size<=sizeLine)
  (h:∀ vs h' tk,vs=(es.toList.map (·.key))->s.heap.objs.size < h'.objs.size->(∀ b o,s.heap.get? b=some o->h'.get? b=some o)->Q vs { s with heap:=h',toks:=tk }) :
  wpAny (model P w) A (collect (.ref d)) Q E s:=by
 obtain ⟨od,ho,g2,g3⟩:=id ok;unfold collect;refine IF (wpAny_runValue (KJ F.entry_proto_collect ?_));rw [KC F.plain_proto_collect _];show wpAny _ A.in1 (newList []>>=fun l=>again (.builtin "list.__iadd__" ⟨[l,.ref d],[]⟩)) _ _ s;refine IF (JU ?_);have hlt:d < s.heap.objs.size:=Jc ho;have ne:s.heap.objs.size≠d:=Kf hlt;have g1:OkD d es ep (s.heap.push { cls:=.type "list", data:=.seq ([]:List Value).toArray }):=⟨od,IQ _ ho,g2,g3⟩;have gS:(s.heap.push { cls:=.type "list", data:=.seq ([]:List Value).toArray }).get? s.heap.objs.size=some { cls:=.type "list", data:=.seq ([]:List Value).toArray }:=Jk _ rfl;refine IJ ⟨plainId_quiet F.plain_list_iadd _,FZ (s:={ s with heap:=s.heap.push { cls:=.type "list", data:=.seq ([]:List Value).toArray } }) hh lo g1 hz ne gS fun h' tk acc' c' hk hS' hacc=>?_⟩;show wpAny _ A (load s.heap.objs.size>>=_) _ _ _;refine IF (wpAny_load hS' ?_);refine IJ ?_;show Q acc'.toList _;refine h _ h' tk ?_ (Jc hS') fun b o e=>hk b o (Js (Jc e)) (IQ _ e);apply LJ;intro j;rw [Kb,IX,Kb];rcases K1 j es.size with z | z
 ·have zj:j < acc'.size:=by rw [hacc.1];exact z
  obtain ⟨e,h1,h2⟩:=hacc.2 j _ (JK zj);rw [JK zj,h1,h2];rfl
 ·rw [Ks (by rw [hacc.1];exact z),Ks z];rfl
end
end L2
end
section
namespace L2
open PySem PySem.Spec PyProof.Rows PySem.W
noncomputable def c5:Bool->Keyed->Array Keyed->Nat->Nat->Nat->StateT SortSt Sem (Option Nat):=sortPriv% PySem.Builtin.gallop
noncomputable def byd (left:Bool) (key:Keyed) (arr:Array Keyed) (base i:Nat):StateT SortSt Sem (Option Bool) :=
 elem' arr (base+i)>>=fun x=>if left=true then lt' x key else lt' key x>>=fun r=>pure (r.map fun b=>!b)
noncomputable def hfB (left:Bool) (key:Keyed) (arr:Array Keyed) (base:Nat) (c:Option (Option Nat)×Nat×Nat):StateT SortSt Sem (ForInStep (Option (Option Nat)×Nat×Nat)) :=
 if c.2.1>=c.2.2 then pure (.done (none,c.2.1,c.2.2)) else
  byd left key arr base (c.2.1+(c.2.2 - c.2.1) / 2)>>=fun r=>match r with
   | some b=>if b=true then pure (.yield (none,c.2.1+(c.2.2 - c.2.1) / 2+1,c.2.2)) else pure (.yield (none,c.2.1,c.2.1+(c.2.2 - c.2.1) / 2))
   | _=>pure (.done (some none,c.2.1,c.2.2))
theorem bindC {α β:Type} {m m':StateT SortSt Sem α} {f f':α->StateT SortSt Sem β} (h:m=m') (k:∀ a,f a=f' a):(m>>=f)=(m'>>=f'):=by
 subst h;exact KZ k
section
variable {M:Model} {A:Around} {E:Value->Shared->Prop} {s:Shared}
theorem wM {α:Type} {m m':StateT SortSt Sem α} {Q:α->SortSt->Prop} {st:SortSt} (e:m=m') (h:wpS M A E s m' Q st):wpS M A E s m Q st:=e▸h
theorem wU {left:Bool} {key:Keyed} {arr:Array Keyed} {base n lo hi:Nat} {P:Nat->Bool} {st:SortSt} {Q:Option Nat->SortSt->Prop}
  (hb:∀ i (C:Option Bool->SortSt->Prop),i < n->C (some (P i)) st->wpS M A E s (byd left key arr base i) C st) (hm:∀ i j,i<=j->j < n->P j=true->P i=true)
  (h0:hi<=n) (hl:lo<=hi) (h1:∀ i,i < lo->P i=true) (h2:∀ i,hi<=i->i < n->P i=false)
  (h:∀ k,k<=n->(∀ i,i < k->P i=true)->(∀ i,k<=i->i < n->P i=false)->Q (some k) st) :
  wpS M A E s (forIn [0:n] ((none,lo,hi):Option (Option Nat)×Nat×Nat) (fun _ c=>hfB left key arr base c)>>=fun c=>match c.1 with
   | some r=>pure r
   | none=>pure (some c.2.2)) Q st:=by
 refine Jm (J5 (I:=fun i c st'=>st'=st/\c.1=none/\c.2.1<=c.2.2/\c.2.2<=n/\c.2.2 - c.2.1<=n - i/\(∀ i,i < c.2.1->P i=true)/\(∀ i,c.2.2<=i->i < n->P i=false)) ?_ ?_ ⟨rfl,rfl,hl,h0,by dsimp only;omega,h1,h2⟩)
 ·rintro i ⟨r,lo,hi⟩ _ _ hi' ⟨rfl,e,a1,a2,a3,a4,a5⟩;dsimp only at e a1 a2 a3 a4 a5 ⊢;subst e;unfold hfB;dsimp only;by_cases c:lo>=hi
  ·rw [IV c];exact Jh (Jh (h hi a2 (fun i z=>a4 i (by omega)) a5))
  ·rw [IU c];refine Jm (hb _ _ (by omega) ?_);dsimp only;cases e:P (lo+(hi - lo) / 2) with
   | true =>
    rw [IV rfl];exact Jh ⟨rfl,rfl,by dsimp only;omega,a2,by dsimp only;omega,fun i z=>hm _ _ (by dsimp only at z;omega) (by omega) e,a5⟩
   | false =>
    rw [IU Jj];refine Jh ⟨rfl,rfl,by dsimp only;omega,by dsimp only;omega,by dsimp only;omega,a4,fun i z y=>?_⟩;cases e':P i with
    | false=>rfl
    | true=>rw [hm _ _ z y e'] at e;exact absurd e (by decide)
 ·rintro ⟨r,lo,hi⟩ _ ⟨rfl,e,a1,a2,a3,a4,a5⟩;dsimp only at e a1 a2 a3 a4 a5 ⊢;subst e;exact Jh (h hi a2 (fun i z=>a4 i (by omega)) a5)
theorem uc {left:Bool} {key:Keyed} {arr:Array Keyed} {base n hint:Nat} {P:Nat->Bool} {st:SortSt} {Q:Option Nat->SortSt->Prop}
  (hb:∀ i (C:Option Bool->SortSt->Prop),i < n->C (some (P i)) st->wpS M A E s (byd left key arr base i) C st) (hm:∀ i j,i<=j->j < n->P j=true->P i=true)
  (hn:hint < n)
  (h:∀ k,k<=n->(∀ i,i < k->P i=true)->(∀ i,k<=i->i < n->P i=false)->Q (some k) st) :
  wpS M A E s (c5 left key arr base n hint) Q st:=by
 have hmf:∀ i j,i<=j->j < n->P i=false->P j=false:=fun i j hij hj e=>by
  cases e':P j with
  | false=>rfl
  | true=>rw [hm _ _ hij hj e'] at e;exact absurd e (by decide)
 unfold c5;refine Jm (hb _ _ hn ?_);dsimp only;cases e:P hint with
 | true =>
  rw [IV rfl];refine Jm (Kq (J5 (I:=fun i (c:Option (Option Nat)×Nat×Nat) st'=>st'=st/\c.1=none/\c.2.1 < c.2.2/\i+1<=c.2.2/\hint+c.2.1 < n/\P (hint+c.2.1)=true) (Q:=fun (c:Option (Option Nat)×Nat×Nat) st'=>st'=st/\c.1=none/\c.2.1 < c.2.2/\hint+c.2.1 < n/\P (hint+c.2.1)=true/\∀ i,hint+min c.2.2 (n - hint)<=i->i < n->P i=false) ?_ ?_ ⟨rfl,rfl,Kt _,IY _,hn,e⟩) ?_)
  ·rintro i ⟨r,lo,hi⟩ _ _ hi' ⟨rfl,e,a1,a2,a3,a4⟩;dsimp only at e a1 a2 a3 a4 ⊢;subst e;by_cases c:hi>=n - hint
   ·rw [IV c];exact Jh ⟨rfl,rfl,a1,a3,a4,fun i z y=>by dsimp only at z;omega⟩
   ·rw [IU c];refine Jm (hb _ _ (by omega) ?_);dsimp only;cases e:P (hint+hi) with
    | true =>
     rw [IU (by decide)];exact Jh ⟨rfl,rfl,by dsimp only;omega,by dsimp only;omega,by dsimp only;omega,e⟩
    | false =>
     rw [IV (by decide)];exact Jh ⟨rfl,rfl,a1,a3,a4,fun i z y=>hmf _ _ (by dsimp only at z;omega) y e⟩
  ·rintro ⟨r,lo,hi⟩ _ ⟨rfl,e,a1,a2,a3,a4⟩;exact ⟨rfl,e,a1,a3,a4,fun i z y=>by dsimp only at z a2;omega⟩
  ·rintro ⟨r,lo,hi⟩ _ ⟨rfl,e,a1,a2,a3,a4⟩;dsimp only at e a1 a2 a3 a4 ⊢;subst e;refine wM ?_ (wU (lo:=hint+lo+1) (hi:=hint+min hi (n - hint)) hb hm (by omega) (by omega) (fun i z=>hm _ _ (by omega) a2 a3) a4 h);exact bindC (by congr 1) fun c=>by cases c.1 <;> rfl
 | false =>
  rw [IU Jj];refine Jm (Kq (J5 (I:=fun i (c:Option (Option Nat)×Nat×Nat) st'=>st'=st/\c.1=none/\c.2.1 < c.2.2/\i+1<=c.2.2/\c.2.1<=hint/\P (hint - c.2.1)=false) (Q:=fun (c:Option (Option Nat)×Nat×Nat) st'=>st'=st/\c.1=none/\c.2.1 < c.2.2/\c.2.1<=hint/\P (hint - c.2.1)=false/\∀ i,i < hint+1 - min c.2.2 (hint+1)->P i=true) ?_ ?_ ⟨rfl,rfl,Kt _,IY _,JZ _,e⟩) ?_)
  ·rintro i ⟨r,lo,hi⟩ _ _ hi' ⟨rfl,e,a1,a2,a3,a4⟩;dsimp only at e a1 a2 a3 a4 ⊢;subst e;by_cases c:hi>=hint+1
   ·rw [IV c];exact Jh ⟨rfl,rfl,a1,a3,a4,fun i z=>by dsimp only at z;omega⟩
   ·rw [IU c];refine Jm (hb _ _ (by omega) ?_);dsimp only;cases e:P (hint - hi) with
    | true =>
     rw [IV rfl];exact Jh ⟨rfl,rfl,a1,a3,a4,fun i z=>hm _ _ (by dsimp only at z;omega) (by omega) e⟩
    | false =>
     rw [IU Jj];exact Jh ⟨rfl,rfl,by dsimp only;omega,by dsimp only;omega,by dsimp only;omega,e⟩
  ·rintro ⟨r,lo,hi⟩ _ ⟨rfl,e,a1,a2,a3,a4⟩;exact ⟨rfl,e,a1,a3,a4,fun i z=>by dsimp only at z a2;omega⟩
  ·rintro ⟨r,lo,hi⟩ _ ⟨rfl,e,a1,a2,a3,a4⟩;dsimp only at e a1 a2 a3 a4 ⊢;subst e;refine wM ?_ (wU hb hm (by omega) (by omega) a4 (fun i z y=>hmf _ _ z y a3) h);exact bindC (by congr 1) fun c=>by cases c.1 <;> rfl
end
end L2
end
section
namespace L2
open PySem PySem.Spec PyProof.Rows PySem.W
noncomputable def arK (F:Nat->Keyed) (l:List Nat):Array Keyed:=(l.map F).toArray
section
variable {F:Nat->Keyed} {l m:List Nat}
theorem aI:(arK F l).size=l.length:=by simp [arK]
theorem cp {x:Nat}:(arK F l).push (F x)=arK F (l++[x]):=by simp [arK]
theorem bZ:arK F l++arK F m=arK F (l++m):=by simp [arK]
theorem p8:(arK F l).reverse=arK F l.reverse:=by simp [arK]
theorem oe {i j:Nat}:(arK F l).extract i j=arK F ((l.drop i).take (j - i)):=by simp [arK,List.extract_eq_drop_take,List.map_drop,List.map_take]
theorem m6 {i:Nat}:(arK F l).extract i l.length=arK F (l.drop i):=by rw [oe,J7 (by simp)]
theorem mW {j:Nat}:(arK F l).extract 0 j=arK F (l.take j):=by rw [oe,List.drop_zero,Nat.sub_zero]
theorem zu {i x:Nat} (h:l[i]?=some x):(arK F l)[i]?=some (F x):=by simp [arK,h]
theorem aP {i x:Nat} (h:l[i]?=some x):l.drop i=x :: l.drop (i+1):=by
 obtain ⟨hi,e⟩:=IK.mp h;rw [Kg hi,e]
end
structure Mg (lt:Nat->Nat->Bool) (tot o A B:List Nat):Prop where
 sa:(o++A).Pairwise fun x y=>lt x y=true
 sb:(o++B).Pairwise fun x y=>lt x y=true
 pm:(o++(A++B)).Perm tot
section
variable {lt:Nat->Nat->Bool} {tot o A B A1 A2 B1 B2:List Nat} {x y:Nat}
theorem Mg.symm (h:Mg lt tot o A B):Mg lt tot o B A:=⟨h.sb,h.sa,(KR o List.perm_append_comm).trans h.pm⟩
theorem Mg.left (h:Mg lt tot o (A1++A2) B) (q:∀ x∈A1,∀ y∈B,lt x y=true):Mg lt tot (o++A1) A2 B:=by
 refine ⟨by rw [Jn];exact h.sa,?_,by have:=h.pm;simp only [Jn] at this ⊢;exact this⟩;have h1:=Ji.mp h.sa;have h2:=Ji.mp h.sb;have h3:=Ji.mp h1.2.1;rw [Jn,Ji];refine ⟨h1.1,Ji.mpr ⟨h3.1,h2.2.1,q⟩,fun a ha b hb=>?_⟩;rcases Jv.mp hb with z | z
 ·exact h1.2.2 a ha b (Jr _ z)
 ·exact h2.2.2 a ha b z
theorem Mg.right (h:Mg lt tot o A (B1++B2)) (q:∀ x∈B1,∀ y∈A,lt x y=true):Mg lt tot (o++B1) A B2:=(h.symm.left q).symm
theorem Mg.len (h:Mg lt tot o A B):o.length+(A.length+B.length)=tot.length:=by simpa using h.pm.length_eq
theorem Mg.vg {N:Nat} (O:Ord lt N) (h:Mg lt tot o (x :: A) (y :: B)) (q:lt y x=true):∀ z∈[y],∀ w∈x :: A,lt z w=true:=by
 intro z hz w hw;rw [Ja] at hz;subst hz;rcases Jb.mp hw with rfl | hw
 ·exact q
 ·exact O.tr _ _ _ q ((JM.mp (Ji.mp h.sa).2.1).1 _ hw)
theorem Mg.ne (h:Mg lt tot o A B) (nd:tot.Nodup) (hx:x∈A) (hy:y∈B):x≠y:=by
 have h1:=(JL.mp (h.pm.nodup_iff.mpr nd)).2.1;exact (JL.mp h1).2.2 x hx y hy
theorem Mg.inA (h:Mg lt tot o A B) (hx:x∈A):x∈tot:=h.pm.mem_iff.mp (IS _ (Jr _ hx))
theorem Mg.inB (h:Mg lt tot o A B) (hx:x∈B):x∈tot:=h.symm.inA hx
theorem Mg.les {N:Nat} (O:Ord lt N) (nd:tot.Nodup) (bd:∀ x∈tot,x < N) (h:Mg lt tot o A B) (hx:x∈A) (hy:y∈B) (e:lt y x=false):lt x y=true :=
 O.tot y x (bd _ (h.inB hy)) (bd _ (h.inA hx)) (Ne.symm (h.ne nd hx hy)) e
theorem Mg.low {N:Nat} (O:Ord lt N) (h:Mg lt tot o A (y :: B)) (q:∀ x∈A1,lt x y=true):∀ x∈A1,∀ w∈y :: B,lt x w=true:=by
 intro x hx w hw;rcases Jb.mp hw with rfl | hw
 ·exact q x hx
 ·exact O.tr _ _ _ (q x hx) ((JM.mp (Ji.mp h.sb).2.1).1 _ hw)
end
section
variable {M:Model} {E:Value->Shared->Prop} {Ar:Around} {s:Shared} {F:Nat->Keyed} {lt:Nat->Nat->Bool} {N:Nat} {κ:SortKind}
theorem aE {α:Type} {l:List Nat} {i x:Nat} {st:SortSt} {f:Keyed->StateT SortSt Sem α} {Q:α->SortSt->Prop} (h:l[i]?=some x) (q:wpS M Ar E s (f (F x)) Q st):wpS M Ar E s (elem' (arK F l) i>>=f) Q st:=by
 rw [elem'_eq,zu h];exact Jm (Jh q)
noncomputable def Cmp (M:Model) (Ar:Around) (E:Value->Shared->Prop) (s:Shared) (F:Nat->Keyed) (lt:Nat->Nat->Bool) (N:Nat) (κ:SortKind):Prop :=
 ∀ i j (C:Option Bool->SortSt->Prop) st,PyProof.Rows.kindOf st=κ->i < N->j < N->C (some (lt i j)) st->wpS M Ar E s (lt' (F i) (F j)) C st
theorem mE {P:Nat->Bool} {S:List Nat} {k:Nat} (hk:k<=S.length) (h1:∀ i,i < k->∀ x,S[i]?=some x->P x=true) (h2:∀ i,k<=i->i < S.length->∀ x,S[i]?=some x->P x=false) :
  ∃ S1 S2,S=S1++S2/\S1.length=k/\(∀ x∈S1,P x=true)/\∀ x∈S2,P x=false:=by
 refine ⟨S.take k,S.drop k,(List.take_append_drop k S).symm,by rw [JR];omega,fun x hx=>?_,fun x hx=>?_⟩
 ·obtain ⟨i,hi,e⟩:=List.mem_iff_getElem.mp hx;rw [JR] at hi;exact h1 i (by omega) x (by rw [List.getElem_take] at e;rw [IG (by omega),e])
 ·obtain ⟨i,hi,e⟩:=List.mem_iff_getElem.mp hx;rw [Ki] at hi;exact h2 (k+i) (by omega) (by omega) x (by rw [List.getElem_drop] at e;rw [IG (by omega),e])
theorem nB {left:Bool} {y base n hint:Nat} {l S:List Nat} {st:SortSt} {Q:Option Nat->SortSt->Prop} (O:Ord lt N) (hc:Cmp M Ar E s F lt N κ) (hk:PyProof.Rows.kindOf st=κ)
  (hS:(l.drop base).take n=S) (hl:S.length=n) (hp:S.Pairwise fun x y=>lt x y=true) (hb:∀ x∈S,x < N) (hy:y < N) (hn:hint < n)
  (h:∀ S1 S2,S=S1++S2->(∀ x∈S1,(if left then lt x y else !lt y x)=true)->(∀ x∈S2,(if left then lt x y else !lt y x)=false)->Q (some S1.length) st) :
  wpS M Ar E s (c5 left (F y) (arK F l) base n hint) Q st:=by
 have hx:∀ i,i < n->∃ x,S[i]?=some x/\l[base+i]?=some x/\x < N:=fun i hi=>by
  refine ⟨S[i]'(by omega),IG _,?_,hb _ (LR _)⟩;have:((l.drop base).take n)[i]?=S[i]?:=by rw [hS]
  rw [List.getElem?_take_of_lt hi,List.getElem?_drop] at this;rw [this,IG]
 refine uc (P:=fun i=>if left then lt (S.getD i 0) y else !lt y (S.getD i 0)) (fun i C hi hC=>?_) (fun i j hij hj e=>?_) hn fun k hk1 a1 a2=>?_
 ·obtain ⟨x,e1,e2,e3⟩:=hx i hi;unfold byd;refine aE e2 ?_;have eg:S.getD i 0=x:=by rw [JH,e1];rfl
  rw [eg] at hC;cases left with
  | true =>
   rw [IV rfl] at hC ⊢;exact hc _ _ _ _ hk e3 hy hC
  | false =>
   rw [IU Jj] at hC ⊢;exact Jm (hc _ _ _ _ hk hy e3 (Jh hC))
 ·rcases Nat.lt_or_eq_of_le hij with z | rfl
  ·obtain ⟨x,e1,e2,e3⟩:=hx i (by omega);obtain ⟨x',e1',e2',e3'⟩:=hx j hj;have eg:S.getD i 0=x:=by rw [JH,e1];rfl
   have eg':S.getD j 0=x':=by rw [JH,e1'];rfl
   have hlt:lt x x'=true:=by
    obtain ⟨u1,u2⟩:=IK.mp e1;obtain ⟨u3,u4⟩:=IK.mp e1';have:=Kw.mp hp i j u1 u3 z
    rwa [u2,u4] at this
   try dsimp only at e ⊢
   rw [eg'] at e;rw [eg];cases left with
   | true =>
    rw [IV rfl] at e ⊢;exact O.tr _ _ _ hlt e
   | false =>
    rw [IU Jj] at e ⊢;cases e2:lt y x with
    | false=>rfl
    | true=>rw [O.tr _ _ _ e2 hlt] at e;exact e
  ·exact e
 ·obtain ⟨S1,S2,rfl,e,b1,b2⟩:=mE (S:=S) (P:=fun x=>if left then lt x y else !lt y x) (k:=k) (by omega)
   (fun i hi x e=>by have:=a1 i hi;rwa [JH,e] at this)
   (fun i hi hi' x e=>by have:=a2 i hi (by omega);rwa [JH,e] at this)
  rw [<- e];exact h S1 S2 rfl b1 b2
end
end L2
end
section
namespace L2
open PySem PySem.Spec PyProof.Rows PySem.W
noncomputable def i9:Array Keyed->Array Keyed->StateT SortSt Sem (Array Keyed):=sortPriv% PySem.Builtin.mergeLo
noncomputable def oO:Nat->StateT SortSt Sem Unit:=sortPriv% PySem.Builtin.setMinGallop
theorem fy (g:Nat):oO g=modify fun s=>SortSt.mk' (PyProof.Rows.kindOf s) (arrOf s) (pendingOf s) g (failedOf s):=rfl
noncomputable abbrev CL:=Option (Array Keyed)×Array Keyed×Nat×Nat×Nat×Nat
noncomputable abbrev CG:=Option (Array Keyed)×Array Keyed×Nat×Nat×Nat×Nat×Nat
noncomputable abbrev fA (a b out:Array Keyed) (ia ib:Nat):=out++a.extract ia a.size++b.extract ib b.size
noncomputable abbrev fL (a b out:Array Keyed) (ia ib:Nat):=out++b.extract ib b.size++a.extract ia a.size
noncomputable def lo1 (a b:Array Keyed) (mg:Nat) (c:CL):StateT SortSt Sem (ForInStep CL):=do
 let some bWins<-lt' (<- elem' b c.2.2.2.1) (<- elem' a c.2.2.1) | return .done (some (fA a b c.2.1 c.2.2.1 c.2.2.2.1),c.2)
 if bWins then
  let x<-elem' b c.2.2.2.1
  if c.2.2.2.1+1==b.size then return .done (some (fA a b (c.2.1.push x) c.2.2.1 (c.2.2.2.1+1)),c.2.1.push x,c.2.2.1,c.2.2.2.1+1,0,c.2.2.2.2.2+1)
  if c.2.2.2.2.2+1>=mg then return .done (none,c.2.1.push x,c.2.2.1,c.2.2.2.1+1,0,c.2.2.2.2.2+1)
  return .yield (none,c.2.1.push x,c.2.2.1,c.2.2.2.1+1,0,c.2.2.2.2.2+1)
 else
  let x<-elem' a c.2.2.1
  if c.2.2.1+1+1==a.size then return .done (some (fL a b (c.2.1.push x) (c.2.2.1+1) c.2.2.2.1),c.2.1.push x,c.2.2.1+1,c.2.2.2.1,c.2.2.2.2.1+1,0)
  if c.2.2.2.2.1+1>=mg then return .done (none,c.2.1.push x,c.2.2.1+1,c.2.2.2.1,c.2.2.2.2.1+1,0)
  return .yield (none,c.2.1.push x,c.2.2.1+1,c.2.2.2.1,c.2.2.2.2.1+1,0)
noncomputable def lo4 (a b out:Array Keyed) (ia ib mg k k1:Nat):StateT SortSt Sem (ForInStep CG):=do
 let x<-elem' a ia
 if ia+1+1==a.size then return .done (some (fL a b (out.push x) (ia+1) ib),out.push x,ia+1,ib,mg,k,k1)
 if k < 7&&k1 < 7 then return .done (none,out.push x,ia+1,ib,mg,k,k1)
 return .yield (none,out.push x,ia+1,ib,mg,k,k1)
noncomputable def lo3 (a b out:Array Keyed) (ia ib mg k bc:Nat):StateT SortSt Sem (ForInStep CG):=do
 let x<-elem' b ib
 if ib+1==b.size then return .done (some (fA a b (out.push x) ia (ib+1)),out.push x,ia,ib+1,mg,k,bc)
 let some k1<-c5 true (<- elem' a ia) b (ib+1) (b.size - (ib+1)) 0 | return .done (some (fA a b (out.push x) ia (ib+1)),out.push x,ia,ib+1,mg,k,bc)
 if k1 > 0 then
  if ib+1+k1==b.size then return .done (some (fA a b (out.push x++b.extract (ib+1) (ib+1+k1)) ia (ib+1+k1)),out.push x++b.extract (ib+1) (ib+1+k1),ia,ib+1+k1,mg,k,k1)
  else lo4 a b (out.push x++b.extract (ib+1) (ib+1+k1)) ia (ib+1+k1) mg k k1
 else lo4 a b (out.push x) ia (ib+1) mg k k1
noncomputable def lo2 (a b out:Array Keyed) (ia ib mg ac bc:Nat):StateT SortSt Sem (ForInStep CG):=do
 oO mg
 let some k<-c5 false (<- elem' b ib) a ia (a.size - ia) 0 | return .done (some (fA a b out ia ib),out,ia,ib,mg,ac,bc)
 if k > 0 then
  if ia+k+1==a.size then return .done (some (fL a b (out++a.extract ia (ia+k)) (ia+k) ib),out++a.extract ia (ia+k),ia+k,ib,mg,k,bc)
  else
   if ia+k==a.size then return .done (some (fA a b (out++a.extract ia (ia+k)) (ia+k) ib),out++a.extract ia (ia+k),ia+k,ib,mg,k,bc)
   else lo3 a b (out++a.extract ia (ia+k)) (ia+k) ib mg k bc
 else lo3 a b out ia ib mg k bc
theorem lq (a b:Array Keyed):i9 a b=(do
 rule "list.sort.merge-lo"
 let x<-elem' b 0
 if 1==b.size then return fA a b #[x] 0 1
 if 0+1==a.size then return fL a b #[x] 0 1
 let st<-get
 let r<-forIn [0:a.size+b.size] ((none,#[x],0,1,gallopOf st):Option (Array Keyed)×Array Keyed×Nat×Nat×Nat) fun _ c=>do
  let d<-forIn [0:a.size+b.size] ((none,c.2.1,c.2.2.1,c.2.2.2.1,0,0):CL) fun _ c'=>lo1 a b c.2.2.2.2 c'
  match d.1 with
  | some r=>pure (.done (some r,d.2.1,d.2.2.1,d.2.2.2.1,c.2.2.2.2))
  | none=>do
   rule "list.sort.gallop"
   let e<-forIn [0:a.size+b.size] ((none,d.2.1,d.2.2.1,d.2.2.2.1,c.2.2.2.2+1,d.2.2.2.2.1,d.2.2.2.2.2):CG) fun _ c' =>
    if c'.2.2.2.2.1 > 1 then lo2 a b c'.2.1 c'.2.2.1 c'.2.2.2.1 (c'.2.2.2.2.1 - 1) c'.2.2.2.2.2.1 c'.2.2.2.2.2.2
    else lo2 a b c'.2.1 c'.2.2.1 c'.2.2.2.1 c'.2.2.2.2.1 c'.2.2.2.2.2.1 c'.2.2.2.2.2.2
   match e.1 with
   | some r=>pure (.done (some r,e.2.1,e.2.2.1,e.2.2.2.1,e.2.2.2.2.1))
   | none=>do
    oO (e.2.2.2.2.1+1)
    pure (.yield (none,e.2.1,e.2.2.1,e.2.2.2.1,e.2.2.2.2.1+1))
 match r.1 with
 | some r=>pure r
 | none=>unsupported "internal:list.sort.merge-bound"):=by
 unfold i9;refine bindC rfl fun _=>?_;dsimp only;refine KZ fun x=>?_;congr 1;congr 1;refine KZ fun st=>?_;have:∀ {α β:Type} {m m':StateT SortSt Sem α} {f f':α->StateT SortSt Sem β},m=m'->f=f'->(m>>=f)=(m'>>=f'):=by rintro _ _ _ _ _ _ rfl rfl;rfl
 refine this ?_ ?_
 ·congr 1;funext _ c;refine this ?_ ?_
  ·congr 1
  ·funext d;cases d.1 with
   | some=>rfl
   | none =>
    dsimp only;refine KZ fun _=>?_;refine this ?_ ?_
    ·congr 1
    ·funext d;cases d.1 <;> rfl
 ·funext r;cases r.1 <;> rfl
end L2
end
section
namespace L2
open PySem PySem.Spec PyProof.Rows PySem.W
section
variable {M:Model} {E:Value->Shared->Prop} {Ar:Around} {s:Shared} {F:Nat->Keyed} {lt:Nat->Nat->Bool} {N:Nat} {κ:SortKind} {X:Array Keyed} {pd:Array (Nat×Nat×Nat)} {la lb tot:List Nat}
noncomputable def FI (F:Nat->Keyed) (lt:Nat->Nat->Bool) (κ:SortKind) (X:Array Keyed) (pd:Array (Nat×Nat×Nat)) (tot:List Nat) (r:Array Keyed) (st:SortSt):Prop:=∃ o g,r=arK F o/\st=SortSt.mk' κ X pd g none/\o.Pairwise (fun x y=>lt x y=true)/\o.Perm tot
noncomputable def LI (F:Nat->Keyed) (lt:Nat->Nat->Bool) (κ:SortKind) (X:Array Keyed) (pd:Array (Nat×Nat×Nat)) (tot la lb:List Nat) (L:Nat) (out:Array Keyed) (ia ib:Nat) (st:SortSt):Prop :=
 ∃ o g,out=arK F o/\st=SortSt.mk' κ X pd g none/\L<=o.length/\Mg lt tot o (la.drop ia) (lb.drop ib)/\ia+1 < la.length/\ib < lb.length
noncomputable def RD (F:Nat->Keyed) (lt:Nat->Nat->Bool) (κ:SortKind) (X:Array Keyed) (pd:Array (Nat×Nat×Nat)) (tot la lb:List Nat) (L:Nat) (c:Option (Array Keyed)) (out:Array Keyed) (ia ib:Nat) (st:SortSt):Prop :=
 (∃ r,c=some r/\FI F lt κ X pd tot r st)\/(c=none/\LI F lt κ X pd tot la lb L out ia ib st)
noncomputable def RG (F:Nat->Keyed) (lt:Nat->Nat->Bool) (κ:SortKind) (X:Array Keyed) (pd:Array (Nat×Nat×Nat)) (tot la lb:List Nat) (L:Nat):ForInStep CG->SortSt->Prop
 | .done c,st=>RD F lt κ X pd tot la lb L c.1 c.2.1 c.2.2.1 c.2.2.2.1 st
 | .yield c,st=>c.1=none/\LI F lt κ X pd tot la lb L c.2.1 c.2.2.1 c.2.2.2.1 st
theorem AE {o:List Nat} {ia ib g:Nat} (h:Mg lt tot o (la.drop ia) (lb.drop ib)) (e:la.length<=ia\/lb.length<=ib):FI F lt κ X pd tot (fA (arK F la) (arK F lb) (arK F o) ia ib) (SortSt.mk' κ X pd g none):=by
 refine ⟨o++la.drop ia++lb.drop ib,g,by unfold fA;rw [aI,aI,m6,m6,bZ,bZ],rfl,?_,by rw [Jn];exact h.pm⟩;rcases e with e | e
 ·rw [List.drop_eq_nil_of_le e,Jp];exact h.sb
 ·rw [List.drop_eq_nil_of_le e,Jp];exact h.sa
theorem CN {o:List Nat} {ia ib g z:Nat} (hz:la[la.length - 1]?=some z) (hz':∀ y∈lb,lt y z=true) (h:Mg lt tot o (la.drop ia) (lb.drop ib)) (e:ia+1=la.length):FI F lt κ X pd tot (fL (arK F la) (arK F lb) (arK F o) ia ib) (SortSt.mk' κ X pd g none):=by
 have ez:la.drop ia=[z]:=by rw [aP (x:=z) (by rw [<- hz];congr 1;omega),List.drop_eq_nil_of_le (by omega)]
 refine ⟨o++lb.drop ib++la.drop ia,g,by unfold fL;rw [aI,aI,m6,m6,bZ,bZ],rfl,?_,by rw [Jn];exact h.symm.pm⟩;have h2:=h.symm;rw [<- Jp (lb.drop ib)] at h2;refine (h2.left fun y hy w hw=>?_).symm.sa;rw [ez,Ja] at hw;subst hw;exact hz' y (List.mem_of_mem_drop hy)
theorem fq {l S1 S2:List Nat} {i:Nat} (h:l.drop i=S1++S2):l.drop (i+S1.length)=S2:=by rw [<- List.drop_drop,h,Lz]
theorem mS {l S1 S2:List Nat} {i:Nat} (h:l.drop i=S1++S2):l.length - i=S1.length+S2.length:=by rw [<- Ki,h,IH]
theorem wb {l S1 S2:List Nat} {i:Nat} (h:l.drop i=S1++S2):(arK F l).extract i (i+S1.length)=arK F S1:=by rw [oe,h,KG,List.take_left]
theorem vz {o:List Nat} {ia ib mg k k1 x g z L:Nat} (hz:la[la.length - 1]?=some z) (hz':∀ y∈lb,lt y z=true) (h:Mg lt tot o (la.drop ia) (lb.drop ib)) (ha:ia+1 < la.length) (hb:ib < lb.length) (hx:la[ia]?=some x) (q:∀ y∈lb.drop ib,lt x y=true) (hL:L<=o.length+1) :
  wpS M Ar E s (lo4 (arK F la) (arK F lb) (arK F o) ia ib mg k k1) (RG F lt κ X pd tot la lb L) (SortSt.mk' κ X pd g none):=by
 unfold lo4;refine aE hx ?_;rw [cp,aI];have h':Mg lt tot (o++[x]) (la.drop (ia+1)) (lb.drop ib):=by
  rw [aP hx] at h;exact Mg.left (A1:=[x]) h fun w hw y hy=>by rw [Ja] at hw;subst hw;exact q y hy
 have hL':L<=(o++[x]).length:=by rw [IH];exact hL
 by_cases c:ia+1+1=la.length
 ·rw [IV (by rw [c];exact JN _)];exact Jh (.inl ⟨_,rfl,CN hz hz' h' c⟩)
 ·rw [IU (by rw [JD];exact c)];split
  ·exact Jh (.inr ⟨rfl,_,_,rfl,rfl,hL',h',by dsimp only;omega,hb⟩)
  ·exact Jh ⟨rfl,_,_,rfl,rfl,hL',h',by dsimp only;omega,hb⟩
variable (O:Ord lt N) (nd:tot.Nodup) (bd:∀ x∈tot,x < N) (hc:Cmp M Ar E s F lt N κ)
include O nd bd hc
theorem vN {o:List Nat} {ia ib mg k bc y g z L:Nat} (hz:la[la.length - 1]?=some z) (hz':∀ y∈lb,lt y z=true) (h:Mg lt tot o (la.drop ia) (lb.drop ib)) (ha:ia+1 < la.length) (hb:ib < lb.length) (hy:lb[ib]?=some y) (q:∀ x∈la.drop ia,lt y x=true) (hL:L<=o.length+1) :
  wpS M Ar E s (lo3 (arK F la) (arK F lb) (arK F o) ia ib mg k bc) (RG F lt κ X pd tot la lb L) (SortSt.mk' κ X pd g none):=by
 unfold lo3;refine aE hy ?_;rw [cp,aI];have h':Mg lt tot (o++[y]) (la.drop ia) (lb.drop (ib+1)):=by
  rw [aP hy] at h;exact Mg.right (B1:=[y]) h fun w hw v hv=>by rw [Ja] at hw;subst hw;exact q v hv
 have hL':L<=(o++[y]).length:=by rw [IH];exact hL
 by_cases c:ib+1=lb.length
 ·rw [IV (by rw [c];exact JN _)];exact Jh (.inl ⟨_,rfl,AE h' (.inr (by omega))⟩)
 ·rw [IU (by rw [JD];exact c)];obtain ⟨x,hx⟩:∃ x,la[ia]?=some x:=⟨_,IG (by omega)⟩;refine aE hx ?_;have hxm:x∈la.drop ia:=by rw [aP hx];exact IP ..
  refine Jm (nB (S:=lb.drop (ib+1)) O hc rfl (J7 (by simp)) (by simp) (Ji.mp h'.sb).2.1 (fun w hw=>bd _ (h'.inB hw)) (bd _ (h'.inA hxm)) (by omega) fun S1 S2 eS q1 q2=>?_);dsimp only;have q2':∀ w∈S2,lt x w=true:=fun w hw=>by
   have:=q2 w hw;rw [IV rfl] at this;exact h'.les O nd bd hxm (by rw [eS];exact IS _ hw) this
  have h2:Mg lt tot (o++[y]++S1) (la.drop ia) (lb.drop (ib+1+S1.length)):=by
   rw [fq eS];rw [eS] at h';refine h'.right ?_;rw [aP hx] at h' ⊢;exact h'.symm.low O fun w hw=>q1 w hw
  by_cases c2:S1.length > 0
  ·rw [IV c2,wb eS,bZ];by_cases c3:ib+1+S1.length=lb.length
   ·rw [IV (by rw [c3];exact JN _)];exact Jh (.inl ⟨_,rfl,AE h2 (.inr (by omega))⟩)
   ·rw [IU (by rw [JD];exact c3)];refine vz hz hz' h2 ha ?_ hx (by rw [fq eS];exact q2') (by rw [IH];omega);have:=mS eS;omega
  ·rw [IU c2];have e0:S1=[]:=Jw (by omega);subst e0;exact vz hz hz' h' ha (by omega) hx (by rw [eS];exact q2') (by omega)
theorem zO {o:List Nat} {ia ib mg ac bc g z L:Nat} (hz:la[la.length - 1]?=some z) (hz':∀ y∈lb,lt y z=true) (h:Mg lt tot o (la.drop ia) (lb.drop ib)) (ha:ia+1 < la.length) (hb:ib < lb.length) (hL:L<=o.length+1) :
  wpS M Ar E s (lo2 (arK F la) (arK F lb) (arK F o) ia ib mg ac bc) (RG F lt κ X pd tot la lb L) (SortSt.mk' κ X pd g none):=by
 unfold lo2;rw [fy];refine Jm (La ?_);obtain ⟨y,hy⟩:∃ y,lb[ib]?=some y:=⟨_,IG hb⟩;refine aE hy ?_;have hym:y∈lb.drop ib:=by rw [aP hy];exact IP ..
 rw [aI];refine Jm (nB (S:=la.drop ia) O hc rfl (J7 (by simp)) (by simp) (Ji.mp h.sa).2.1 (fun w hw=>bd _ (h.inA hw)) (bd _ (h.inB hym)) (by omega) fun S1 S2 eS q1 q2=>?_);dsimp only;have q1':∀ w∈S1,lt w y=true:=fun w hw=>by
  have:=q1 w hw;rw [IU Jj,KA] at this;exact h.les O nd bd (by rw [eS];exact Jr _ hw) hym this
 have q2':∀ w∈S2,lt y w=true:=fun w hw=>by
  have:=q2 w hw
  rwa [IU Jj,LA] at this
 have h2:Mg lt tot (o++S1) (la.drop (ia+S1.length)) (lb.drop ib):=by
  rw [fq eS];rw [eS] at h;refine h.left ?_;rw [aP hy] at h ⊢;exact h.low O q1'
 have hl:=mS eS;by_cases c2:S1.length > 0
 ·rw [IV c2,wb eS,bZ];by_cases c3:ia+S1.length+1=la.length
  ·rw [IV (by rw [c3];exact JN _)];exact Jh (.inl ⟨_,rfl,CN hz hz' h2 c3⟩)
  ·rw [IU (by rw [JD];exact c3)];by_cases c4:ia+S1.length=la.length
   ·rw [IV (by rw [c4];exact JN _)];exact Jh (.inl ⟨_,rfl,AE h2 (.inl (by omega))⟩)
   ·rw [IU (by rw [JD];exact c4)];exact vN O nd bd hc hz hz' h2 (by omega) hb hy (by rw [fq eS];exact q2') (by rw [IH];omega)
 ·rw [IU c2];have e0:S1=[]:=Jw (by omega);subst e0;exact vN O nd bd hc hz hz' h ha hb hy (by rw [eS];exact q2') hL
theorem Cf {o:List Nat} {ia ib mg ac bc g z L:Nat} (hz:la[la.length - 1]?=some z) (hz':∀ y∈lb,lt y z=true) (h:Mg lt tot o (la.drop ia) (lb.drop ib)) (ha:ia+1 < la.length) (hb:ib < lb.length) (hL:L<=o.length+1) :
  wpS M Ar E s (lo1 (arK F la) (arK F lb) mg (none,arK F o,ia,ib,ac,bc)) (fun r st=>(∃ c,r=.done c/\RD F lt κ X pd tot la lb L c.1 c.2.1 c.2.2.1 c.2.2.2.1 st)\/∃ c,r=.yield c/\c.1=none/\LI F lt κ X pd tot la lb L c.2.1 c.2.2.1 c.2.2.2.1 st) (SortSt.mk' κ X pd g none):=by
 unfold lo1;obtain ⟨y,hy⟩:∃ y,lb[ib]?=some y:=⟨_,IG hb⟩;obtain ⟨x,hx⟩:∃ x,la[ia]?=some x:=⟨_,IG (by omega)⟩;have hxm:x∈la.drop ia:=by rw [aP hx];exact IP ..
 have hym:y∈lb.drop ib:=by rw [aP hy];exact IP ..
 dsimp only;refine aE hy (aE hx (Jm (hc _ _ _ _ rfl (bd _ (h.inB hym)) (bd _ (h.inA hxm)) ?_)));dsimp only;cases e:lt y x with
 | true =>
  rw [IV rfl];refine aE hy ?_;rw [cp,aI];have h':Mg lt tot (o++[y]) (la.drop ia) (lb.drop (ib+1)):=by
   rw [aP hy] at h;refine Mg.right (B1:=[y]) h ?_;rw [aP hx] at h ⊢;exact h.vg O e
  have hL':L<=(o++[y]).length:=by rw [IH];exact hL
  by_cases c:ib+1=lb.length
  ·rw [IV (by rw [c];exact JN _)];exact Jh (.inl ⟨_,rfl,.inl ⟨_,rfl,AE h' (.inr (by omega))⟩⟩)
  ·rw [IU (by rw [JD];exact c)];split
   ·exact Jh (.inl ⟨_,rfl,.inr ⟨rfl,_,_,rfl,rfl,hL',h',ha,by dsimp only;omega⟩⟩)
   ·exact Jh (.inr ⟨_,rfl,rfl,_,_,rfl,rfl,hL',h',ha,by dsimp only;omega⟩)
 | false =>
  rw [IU Jj];refine aE hx ?_;rw [cp,aI];have e':=h.les O nd bd hxm hym e;have h':Mg lt tot (o++[x]) (la.drop (ia+1)) (lb.drop ib):=by
   rw [aP hx] at h;refine Mg.left (A1:=[x]) h ?_;rw [aP hy] at h ⊢;exact h.symm.vg O e'
  have hL':L<=(o++[x]).length:=by rw [IH];exact hL
  by_cases c:ia+1+1=la.length
  ·rw [IV (by rw [c];exact JN _)];exact Jh (.inl ⟨_,rfl,.inl ⟨_,rfl,CN hz hz' h' c⟩⟩)
  ·rw [IU (by rw [JD];exact c)];split
   ·exact Jh (.inl ⟨_,rfl,.inr ⟨rfl,_,_,rfl,rfl,hL',h',by dsimp only;omega,hb⟩⟩)
   ·exact Jh (.inr ⟨_,rfl,rfl,_,_,rfl,rfl,hL',h',by dsimp only;omega,hb⟩)
theorem sC {g z y:Nat} {B:List Nat} {Q:Array Keyed->SortSt->Prop} (hz:la[la.length - 1]?=some z) (hz':∀ y∈lb,lt y z=true) (hy:lb=y :: B) (hy':∀ x∈la,lt y x=true) (sa:la.Pairwise fun x y=>lt x y=true) (sb:lb.Pairwise fun x y=>lt x y=true) (et:tot=la++lb)
  (h:∀ r st,FI F lt κ X pd tot r st->Q r st):wpS M Ar E s (i9 (arK F la) (arK F lb)) Q (SortSt.mk' κ X pd g none):=by
 have hal:1<=la.length:=by
  rcases Nat.eq_zero_or_pos la.length with e | e
  ·rw [Jw e] at hz;cases hz
  ·exact e
 have hbl:lb.length=B.length+1:=by rw [hy];rfl
 have hl:tot.length=la.length+lb.length:=by rw [et,IH]
 have h0:Mg lt tot [y] (la.drop 0) (lb.drop 1):=by
  have m0:Mg lt tot [] la (y :: B):=⟨sa,by rw [<- hy];exact sb,by rw [<- hy,<-et];exact Kd _⟩;rw [hy];exact Mg.right (B1:=[y]) m0 fun w hw x hx=>by rw [Ja] at hw;subst hw;exact hy' x hx
 rw [lq];refine Jm (wpS_lift (Ke ⟨rfl,?_⟩));refine aE (x:=y) (by rw [hy];rfl) ?_;rw [show (#[F y]:Array Keyed)=arK F [y] from rfl,aI,aI];by_cases c:1=lb.length
 ·rw [IV (by rw [<- c];rfl)];exact Jh (h _ _ (AE h0 (.inr (by omega))))
 rw [IU (by rw [JD];exact c)];by_cases c:0+1=la.length
 ·rw [IV (by rw [<- c];rfl)];exact Jh (h _ _ (CN hz hz' h0 c))
 rw [IU (by rw [JD];exact c)];refine Jm (LV ?_);refine Jm (Kq (J5 (I:=fun i (c:Option (Array Keyed)×Array Keyed×Nat×Nat×Nat) st=>c.1=none/\LI F lt κ X pd tot la lb (i+1) c.2.1 c.2.2.1 c.2.2.2.1 st) (Q:=fun (c:Option (Array Keyed)×Array Keyed×Nat×Nat×Nat) st=>∃ r,c.1=some r/\FI F lt κ X pd tot r st) ?_ ?_ ⟨rfl,[y],_,rfl,rfl,IY _,h0,by dsimp only;omega,by dsimp only;omega⟩) ?_)
 ·rintro i ⟨r,out,ia,ib,mg⟩ st _ hi ⟨e,o,g,e1,rfl,hL,hM,ha,hb⟩;dsimp only at e e1 hM ha hb ⊢;subst e e1;refine Jm (Kq (J5 (I:=fun j (c:CL) st=>c.1=none/\LI F lt κ X pd tot la lb (i+1+min j 1) c.2.1 c.2.2.1 c.2.2.2.1 st) (Q:=fun (c:CL) st=>RD F lt κ X pd tot la lb (i+2) c.1 c.2.1 c.2.2.1 c.2.2.2.1 st) ?_ ?_ ⟨rfl,o,_,rfl,rfl,hL,hM,ha,hb⟩) ?_)
  ·rintro j ⟨r,out,ia,ib,ac,bc⟩ st _ hj ⟨e,o,g,e1,rfl,hL,hM,ha,hb⟩;dsimp only at e e1 hM ha hb hL ⊢;subst e e1;refine Kq (Cf O nd bd hc (L:=i+2) hz hz' hM ha hb (by omega)) ?_;rintro r st (⟨c,rfl,q⟩ | ⟨c,rfl,e,o,g,q1,q2,q3,q4⟩)
   ·exact q
   ·exact ⟨e,o,g,q1,q2,by omega,q4⟩
  ·rintro ⟨r,out,ia,ib,ac,bc⟩ st ⟨e,o,g,q1,q2,q3,q4⟩;exact .inr ⟨e,o,g,q1,q2,by omega,q4⟩
  ·rintro ⟨r,out,ia,ib,ac,bc⟩ st (⟨r,e,q⟩ | ⟨e,o,g,e1,rfl,hL,hM,ha,hb⟩)
   ·dsimp only at e ⊢;subst e;exact Jh ⟨r,rfl,q⟩
   dsimp only at e e1 hM ha hb hL ⊢;subst e e1;refine Jm (wpS_lift (Ke ⟨rfl,?_⟩));refine Jm (Kq (J5 (I:=fun j (c:CG) st=>c.1=none/\LI F lt κ X pd tot la lb (i+2) c.2.1 c.2.2.1 c.2.2.2.1 st) (Q:=fun (c:CG) st=>RD F lt κ X pd tot la lb (i+2) c.1 c.2.1 c.2.2.1 c.2.2.2.1 st) ?_ ?_ ⟨rfl,o,_,rfl,rfl,hL,hM,ha,hb⟩) ?_)
   ·rintro j ⟨r,out,ia,ib,mg,ac,bc⟩ st _ hj ⟨e,o,g,e1,rfl,hL,hM,ha,hb⟩;dsimp only at e e1 hM ha hb hL ⊢;subst e e1;split
    all_goals
     refine Kq (zO O nd bd hc (L:=i+2) hz hz' hM ha hb (by omega)) ?_;rintro (c | c) st q
     ·exact q
     ·exact q
   ·rintro ⟨r,out,ia,ib,mg,ac,bc⟩ st ⟨e,q⟩;exact .inr ⟨e,q⟩
   ·rintro ⟨r,out,ia,ib,mg,ac,bc⟩ st (⟨r,e,q⟩ | ⟨e,o,g,e1,rfl,hL,hM,ha,hb⟩)
    ·dsimp only at e ⊢;subst e;exact Jh ⟨r,rfl,q⟩
    dsimp only at e e1 hM ha hb hL ⊢;subst e e1;rw [fy];exact Jm (La (Jh ⟨rfl,o,_,rfl,rfl,hL,hM,ha,hb⟩))
 ·rintro ⟨r,out,ia,ib,mg⟩ st ⟨e,o,g,e1,rfl,hL,hM,ha,hb⟩;exfalso;have:=hM.len;rw [Ki,Ki] at this;dsimp only at this ha hb;omega
 ·rintro ⟨r,out,ia,ib,mg⟩ st ⟨r,e,q⟩;dsimp only at e ⊢;subst e;exact Jh (h _ _ q)
end
end L2
end
section
namespace L2
open PySem PySem.Spec PyProof.Rows PySem.W
noncomputable def i7:Array Keyed->Array Keyed->StateT SortSt Sem (Array Keyed):=sortPriv% PySem.Builtin.mergeHi
noncomputable abbrev DL:=Option (Array Keyed)×Nat×Nat×Array Keyed×Nat×Nat
noncomputable abbrev DG:=Option (Array Keyed)×Nat×Nat×Array Keyed×Nat×Nat×Nat
noncomputable abbrev gA (a b out:Array Keyed) (na nb:Nat):=a.extract 0 na++b.extract 0 nb++out.reverse
noncomputable abbrev gB (a b out:Array Keyed) (na nb:Nat):=b.extract 0 nb++a.extract 0 na++out.reverse
noncomputable def hi1 (a b:Array Keyed) (mg:Nat) (c:DL):StateT SortSt Sem (ForInStep DL):=do
 let some aWins<-lt' (<- elem' b (c.2.2.1 - 1)) (<- elem' a (c.2.1 - 1)) | return .done (some (gA a b c.2.2.2.1 c.2.1 c.2.2.1),c.2)
 if aWins then
  let x<-elem' a (c.2.1 - 1)
  if c.2.1 - 1==0 then return .done (some (gA a b (c.2.2.2.1.push x) (c.2.1 - 1) c.2.2.1),c.2.1 - 1,c.2.2.1,c.2.2.2.1.push x,c.2.2.2.2.1+1,0)
  if c.2.2.2.2.1+1>=mg then return .done (none,c.2.1 - 1,c.2.2.1,c.2.2.2.1.push x,c.2.2.2.2.1+1,0)
  return .yield (none,c.2.1 - 1,c.2.2.1,c.2.2.2.1.push x,c.2.2.2.2.1+1,0)
 else
  let x<-elem' b (c.2.2.1 - 1)
  if c.2.2.1 - 1==1 then return .done (some (gB a b (c.2.2.2.1.push x) c.2.1 (c.2.2.1 - 1)),c.2.1,c.2.2.1 - 1,c.2.2.2.1.push x,0,c.2.2.2.2.2+1)
  if c.2.2.2.2.2+1>=mg then return .done (none,c.2.1,c.2.2.1 - 1,c.2.2.2.1.push x,0,c.2.2.2.2.2+1)
  return .yield (none,c.2.1,c.2.2.1 - 1,c.2.2.2.1.push x,0,c.2.2.2.2.2+1)
noncomputable def hi4 (a b out:Array Keyed) (na nb mg k k1:Nat):StateT SortSt Sem (ForInStep DG):=do
 let x<-elem' a (na - 1)
 if na - 1==0 then return .done (some (gA a b (out.push x) (na - 1) nb),na - 1,nb,out.push x,mg,k,k1)
 if k < 7&&k1 < 7 then return .done (none,na - 1,nb,out.push x,mg,k,k1)
 return .yield (none,na - 1,nb,out.push x,mg,k,k1)
noncomputable def hi3 (a b out:Array Keyed) (na nb mg k bc:Nat):StateT SortSt Sem (ForInStep DG):=do
 let x<-elem' b (nb - 1)
 if nb - 1==1 then return .done (some (gB a b (out.push x) na (nb - 1)),na,nb - 1,out.push x,mg,k,bc)
 let some k1<-c5 true (<- elem' a (na - 1)) b 0 (nb - 1) (nb - 1 - 1) | return .done (some (gA a b (out.push x) na (nb - 1)),na,nb - 1,out.push x,mg,k,bc)
 if nb - 1 - k1 > 0 then
  if k1==1 then return .done (some (gB a b (out.push x++(b.extract k1 (nb - 1)).reverse) na k1),na,k1,out.push x++(b.extract k1 (nb - 1)).reverse,mg,k,nb - 1 - k1)
  else
   if k1==0 then return .done (some (gA a b (out.push x++(b.extract k1 (nb - 1)).reverse) na k1),na,k1,out.push x++(b.extract k1 (nb - 1)).reverse,mg,k,nb - 1 - k1)
   else hi4 a b (out.push x++(b.extract k1 (nb - 1)).reverse) na k1 mg k (nb - 1 - k1)
 else hi4 a b (out.push x) na (nb - 1) mg k (nb - 1 - k1)
noncomputable def hi2 (a b out:Array Keyed) (na nb mg ac bc:Nat):StateT SortSt Sem (ForInStep DG):=do
 oO mg
 let some k<-c5 false (<- elem' b (nb - 1)) a 0 na (na - 1) | return .done (some (gA a b out na nb),na,nb,out,mg,ac,bc)
 if na - k > 0 then
  if k==0 then return .done (some (gA a b (out++(a.extract k na).reverse) k nb),k,nb,out++(a.extract k na).reverse,mg,na - k,bc)
  else hi3 a b (out++(a.extract k na).reverse) k nb mg (na - k) bc
 else hi3 a b out na nb mg (na - k) bc
theorem lZ (a b:Array Keyed):i7 a b=(do
 rule "list.sort.merge-hi"
 let x<-elem' a (a.size - 1)
 if a.size - 1==0 then return gA a b #[x] (a.size - 1) b.size
 if b.size==1 then return gB a b #[x] (a.size - 1) b.size
 let st<-get
 let r<-forIn [0:a.size+b.size] ((none,a.size - 1,b.size,#[x],gallopOf st):Option (Array Keyed)×Nat×Nat×Array Keyed×Nat) fun _ c=>do
  let d<-forIn [0:a.size+b.size] ((none,c.2.1,c.2.2.1,c.2.2.2.1,0,0):DL) fun _ c'=>hi1 a b c.2.2.2.2 c'
  match d.1 with
  | some r=>pure (.done (some r,d.2.1,d.2.2.1,d.2.2.2.1,c.2.2.2.2))
  | none=>do
   rule "list.sort.gallop"
   let e<-forIn [0:a.size+b.size] ((none,d.2.1,d.2.2.1,d.2.2.2.1,c.2.2.2.2+1,d.2.2.2.2.1,d.2.2.2.2.2):DG) fun _ c' =>
    if c'.2.2.2.2.1 > 1 then hi2 a b c'.2.2.2.1 c'.2.1 c'.2.2.1 (c'.2.2.2.2.1 - 1) c'.2.2.2.2.2.1 c'.2.2.2.2.2.2
    else hi2 a b c'.2.2.2.1 c'.2.1 c'.2.2.1 c'.2.2.2.2.1 c'.2.2.2.2.2.1 c'.2.2.2.2.2.2
   match e.1 with
   | some r=>pure (.done (some r,e.2.1,e.2.2.1,e.2.2.2.1,e.2.2.2.2.1))
   | none=>do
    oO (e.2.2.2.2.1+1)
    pure (.yield (none,e.2.1,e.2.2.1,e.2.2.2.1,e.2.2.2.2.1+1))
 match r.1 with
 | some r=>pure r
 | none=>unsupported "internal:list.sort.merge-bound"):=by
 unfold i7;refine bindC rfl fun _=>?_;dsimp only;refine KZ fun x=>?_;congr 1;congr 1;refine KZ fun st=>?_;have:∀ {α β:Type} {m m':StateT SortSt Sem α} {f f':α->StateT SortSt Sem β},m=m'->f=f'->(m>>=f)=(m'>>=f'):=by rintro _ _ _ _ _ _ rfl rfl;rfl
 refine this ?_ ?_
 ·congr 1;funext _ c;refine this ?_ ?_
  ·congr 1
  ·funext d;cases d.1 with
   | some=>rfl
   | none =>
    dsimp only;refine KZ fun _=>?_;refine this ?_ ?_
    ·congr 1
    ·funext d;cases d.1 <;> rfl
 ·funext r;cases r.1 <;> rfl
end L2
end
section
namespace L2
open PySem PySem.Spec PyProof.Rows PySem.W
section
variable {M:Model} {E:Value->Shared->Prop} {Ar:Around} {s:Shared} {F:Nat->Keyed} {lt:Nat->Nat->Bool} {N:Nat} {κ:SortKind} {X:Array Keyed} {pd:Array (Nat×Nat×Nat)} {la lb tot:List Nat}
theorem Ord.flip (O:Ord lt N):Ord (fun x y=>lt y x) N:=⟨O.irr,fun i j k a b=>O.tr _ _ _ b a,fun i j hi hj hn e=>O.tot j i hj hi (Ne.symm hn) e⟩
noncomputable abbrev tkR (l:List Nat) (n:Nat):List Nat:=(l.take n).reverse
theorem eT {l:List Nat} {n x:Nat} (hn:0 < n) (h:l[n - 1]?=some x):tkR l n=x :: tkR l (n - 1):=by
 obtain ⟨m,rfl⟩:∃ m,n=m+1:=⟨n - 1,by omega⟩;rw [Nat.add_sub_cancel] at h ⊢;obtain ⟨hi,e⟩:=IK.mp h;unfold tkR;rw [List.take_add_one,h,List.reverse_append];rfl
theorem pR {l:List Nat} {n:Nat} (h:n<=l.length):(tkR l n).length=n:=by rw [Lq,JR];omega
theorem i0 {l S1 S2:List Nat} {n:Nat} (h:l.take n=S1++S2):l.take S1.length=S1:=by
 have:(l.take n).take S1.length=S1:=by rw [h,List.take_left]
 rw [List.take_take] at this;have e:S1.length<=n:=by
  have h2:=congrArg List.length h;rw [JR,IH] at h2;omega
 rwa [Nat.min_eq_left e] at this
theorem lR {l S1 S2:List Nat} {n:Nat} (h:l.take n=S1++S2):tkR l n=S2.reverse++tkR l S1.length:=by
 unfold tkR;rw [i0 h,h,List.reverse_append]
theorem wF {l S1 S2:List Nat} {n:Nat} (h:l.take n=S1++S2):((arK F l).extract S1.length n).reverse=arK F S2.reverse:=by
 rw [oe,<-List.drop_take,h,Lz,p8]
noncomputable def HI (F:Nat->Keyed) (lt:Nat->Nat->Bool) (κ:SortKind) (X:Array Keyed) (pd:Array (Nat×Nat×Nat)) (tot la lb:List Nat) (L:Nat) (out:Array Keyed) (na nb:Nat) (st:SortSt):Prop :=
 ∃ o g,out=arK F o/\st=SortSt.mk' κ X pd g none/\L<=o.length/\Mg (fun x y=>lt y x) tot o (tkR la na) (tkR lb nb)/\(0 < na/\na<=la.length)/\1 < nb/\nb<=lb.length
noncomputable def HD (F:Nat->Keyed) (lt:Nat->Nat->Bool) (κ:SortKind) (X:Array Keyed) (pd:Array (Nat×Nat×Nat)) (tot la lb:List Nat) (L:Nat) (c:Option (Array Keyed)) (out:Array Keyed) (na nb:Nat) (st:SortSt):Prop :=
 (∃ r,c=some r/\FI F lt κ X pd tot r st)\/(c=none/\HI F lt κ X pd tot la lb L out na nb st)
noncomputable def HG (F:Nat->Keyed) (lt:Nat->Nat->Bool) (κ:SortKind) (X:Array Keyed) (pd:Array (Nat×Nat×Nat)) (tot la lb:List Nat) (L:Nat):ForInStep DG->SortSt->Prop
 | .done c,st=>HD F lt κ X pd tot la lb L c.1 c.2.2.2.1 c.2.1 c.2.2.1 st
 | .yield c,st=>c.1=none/\HI F lt κ X pd tot la lb L c.2.2.2.1 c.2.1 c.2.2.1 st
theorem v5 {o A B:List Nat}:(A++B++o.reverse).Perm (o++(A.reverse++B.reverse)) :=
 List.perm_append_comm.trans (List.Perm.append (Lf _) (List.Perm.append (Lf _).symm (Lf _).symm))
theorem wD {o A:List Nat} (h:(o++A.reverse).Pairwise fun x y=>lt y x=true):(A++o.reverse).Pairwise fun x y=>lt x y=true:=by
 have:=Kv.mpr h
 rwa [List.reverse_append,List.reverse_reverse] at this
theorem pz {o:List Nat} {na nb g:Nat} (h:Mg (fun x y=>lt y x) tot o (tkR la na) (tkR lb nb)) (e:na=0\/nb=0):FI F lt κ X pd tot (gA (arK F la) (arK F lb) (arK F o) na nb) (SortSt.mk' κ X pd g none):=by
 refine ⟨la.take na++lb.take nb++o.reverse,g,by unfold gA;rw [mW,mW,p8,bZ,bZ],rfl,?_,v5.trans h.pm⟩;rcases e with rfl | rfl
 ·rw [List.take_zero,List.nil_append];exact wD h.sb
 ·rw [List.take_zero,Jp];exact wD h.sa
theorem uy {o:List Nat} {na nb g y:Nat} (hy:lb[0]?=some y) (hy':∀ x∈la,lt y x=true) (h:Mg (fun x y=>lt y x) tot o (tkR la na) (tkR lb nb)) (e:nb=1):FI F lt κ X pd tot (gB (arK F la) (arK F lb) (arK F o) na nb) (SortSt.mk' κ X pd g none):=by
 subst e;have ey:tkR lb 1=[y]:=by rw [eT Nat.one_pos hy];unfold tkR;rfl
 refine ⟨lb.take 1++la.take na++o.reverse,g,by unfold gB;rw [mW,mW,p8,bZ,bZ],rfl,?_,v5.trans h.symm.pm⟩;rw [<- Jp (tkR la na)] at h
 have h2:=(h.left fun x hx w hw=>by
  rw [ey,Ja] at hw;subst hw
  exact hy' x (List.mem_of_mem_take (Ku.mp hx))).sb
 have:=Kv.mpr h2;unfold tkR at this;simpa only [List.reverse_append,List.reverse_reverse,Jn] using this
theorem wL {o:List Nat} {na nb mg k k1 x g L:Nat} (h:Mg (fun x y=>lt y x) tot o (tkR la na) (tkR lb nb)) (ha:0 < na/\na<=la.length) (hb:1 < nb/\nb<=lb.length) (hx:la[na - 1]?=some x) (q:∀ y∈tkR lb nb,lt y x=true) (hL:L<=o.length+1) :
  wpS M Ar E s (hi4 (arK F la) (arK F lb) (arK F o) na nb mg k k1) (HG F lt κ X pd tot la lb L) (SortSt.mk' κ X pd g none):=by
 unfold hi4;refine aE hx ?_;rw [cp];have h':Mg (fun x y=>lt y x) tot (o++[x]) (tkR la (na - 1)) (tkR lb nb):=by
  rw [eT ha.1 hx] at h;exact Mg.left (A1:=[x]) h fun w hw y hy=>by rw [Ja] at hw;subst hw;exact q y hy
 have hL':L<=(o++[x]).length:=by rw [IH];exact hL
 by_cases c:na - 1=0
 ·rw [IV (by rw [c];rfl)];exact Jh (.inl ⟨_,rfl,pz h' (.inl c)⟩)
 ·rw [IU (by rw [JD];exact c)];split
  ·exact Jh (.inr ⟨rfl,_,_,rfl,rfl,hL',h',by dsimp only;omega,hb⟩)
  ·exact Jh ⟨rfl,_,_,rfl,rfl,hL',h',by dsimp only;omega,hb⟩
variable (O:Ord lt N) (nd:tot.Nodup) (bd:∀ x∈tot,x < N) (hc:Cmp M Ar E s F lt N κ)
include O nd bd hc
theorem wR {o:List Nat} {na nb mg k bc y y0 g L:Nat} (hy0:lb[0]?=some y0) (hy0':∀ x∈la,lt y0 x=true) (h:Mg (fun x y=>lt y x) tot o (tkR la na) (tkR lb nb)) (ha:0 < na/\na<=la.length) (hb:1 < nb/\nb<=lb.length) (hy:lb[nb - 1]?=some y) (q:∀ x∈tkR la na,lt x y=true) (hL:L<=o.length+1) :
  wpS M Ar E s (hi3 (arK F la) (arK F lb) (arK F o) na nb mg k bc) (HG F lt κ X pd tot la lb L) (SortSt.mk' κ X pd g none):=by
 unfold hi3;refine aE hy ?_;rw [cp];have h':Mg (fun x y=>lt y x) tot (o++[y]) (tkR la na) (tkR lb (nb - 1)):=by
  rw [eT (by omega) hy] at h;exact Mg.right (B1:=[y]) h fun w hw v hv=>by rw [Ja] at hw;subst hw;exact q v hv
 have hL':L<=(o++[y]).length:=by rw [IH];exact hL
 by_cases c:nb - 1=1
 ·rw [IV (by rw [c];rfl)];exact Jh (.inl ⟨_,rfl,uy hy0 hy0' h' c⟩)
 ·rw [IU (by rw [JD];exact c)];obtain ⟨x,hx⟩:∃ x,la[na - 1]?=some x:=⟨_,IG (by omega)⟩;refine aE hx ?_;have ex:=eT ha.1 hx;have hxm:x∈tkR la na:=by rw [ex];exact IP ..
  have sb:=(Ji.mp h'.sb).2.1;refine Jm (nB (S:=lb.take (nb - 1)) O hc rfl (by rw [List.drop_zero]) (by rw [JR];omega) (by have:=Kv.mpr sb;unfold tkR at this;rwa [List.reverse_reverse] at this) (fun w hw=>bd _ (h'.inB (Ku.mpr hw))) (bd _ (h'.inA hxm)) (by omega) fun S1 S2 eS q1 q2=>?_);dsimp only;have hl:S1.length+S2.length=nb - 1:=by rw [<- IH,<-eS,JR];omega
  have q2':∀ w∈S2.reverse,lt x w=true:=fun w hw=>by
   have:=q2 w (Ku.mp hw);rw [IV rfl] at this;exact Mg.les (lt:=fun x y=>lt y x) O.flip nd bd h'.symm (by rw [lR eS];exact Jr _ hw) hxm this
  have h2:Mg (fun x y=>lt y x) tot (o++[y]++S2.reverse) (tkR la na) (tkR lb S1.length):=by
   rw [lR eS] at h';refine h'.right ?_;rw [ex] at h' ⊢;exact h'.symm.low O.flip fun w hw=>q2' w hw
  have q1':∀ w∈tkR lb S1.length,lt w x=true:=fun w hw=>by
   unfold tkR at hw;rw [i0 eS,Ku] at hw;exact q1 w hw
  by_cases c2:nb - 1 - S1.length > 0
  ·rw [IV c2,wF eS,bZ];by_cases c3:S1.length=1
   ·rw [IV (by rw [c3];rfl)];exact Jh (.inl ⟨_,rfl,uy hy0 hy0' h2 c3⟩)
   ·rw [IU (by rw [JD];exact c3)];by_cases c4:S1.length=0
    ·rw [IV (by rw [c4];rfl)];exact Jh (.inl ⟨_,rfl,pz h2 (.inr c4)⟩)
    ·rw [IU (by rw [JD];exact c4)];exact wL h2 ha (by omega) hx q1' (by rw [IH];omega)
  ·rw [IU c2];have e0:S1.length=nb - 1:=by omega
   rw [e0] at q1';exact wL h' ha (by omega) hx q1' (by omega)
theorem BO {o:List Nat} {na nb mg ac bc y0 g L:Nat} (hy0:lb[0]?=some y0) (hy0':∀ x∈la,lt y0 x=true) (h:Mg (fun x y=>lt y x) tot o (tkR la na) (tkR lb nb)) (ha:0 < na/\na<=la.length) (hb:1 < nb/\nb<=lb.length) (hL:L<=o.length+1) :
  wpS M Ar E s (hi2 (arK F la) (arK F lb) (arK F o) na nb mg ac bc) (HG F lt κ X pd tot la lb L) (SortSt.mk' κ X pd g none):=by
 unfold hi2;rw [fy];refine Jm (La ?_);obtain ⟨y,hy⟩:∃ y,lb[nb - 1]?=some y:=⟨_,IG (by omega)⟩;refine aE hy ?_;have ey:=eT (by omega) hy;have hym:y∈tkR lb nb:=by rw [ey];exact IP ..
 have sa:=(Ji.mp h.sa).2.1;refine Jm (nB (S:=la.take na) O hc rfl (by rw [List.drop_zero]) (by rw [JR];omega) (by have:=Kv.mpr sa;unfold tkR at this;rwa [List.reverse_reverse] at this) (fun w hw=>bd _ (h.inA (Ku.mpr hw))) (bd _ (h.inB hym)) (by omega) fun S1 S2 eS q1 q2=>?_);dsimp only;have hl:S1.length+S2.length=na:=by rw [<- IH,<-eS,JR];omega
 have q1':∀ w∈tkR la S1.length,lt w y=true:=fun w hw=>by
  unfold tkR at hw;rw [i0 eS,Ku] at hw;have:=q1 w hw;rw [IU Jj,KA] at this;exact Mg.les (lt:=fun x y=>lt y x) O.flip nd bd h.symm hym (by rw [Ku,eS];exact Jr _ hw) this
 have q2':∀ w∈S2.reverse,lt y w=true:=fun w hw=>by
  have:=q2 w (Ku.mp hw)
  rwa [IU Jj,LA] at this
 have h2:Mg (fun x y=>lt y x) tot (o++S2.reverse) (tkR la S1.length) (tkR lb nb):=by
  rw [lR eS] at h;refine h.left ?_;rw [ey] at h ⊢;exact h.low O.flip q2'
 by_cases c2:na - S1.length > 0
 ·rw [IV c2,wF eS,bZ];by_cases c3:S1.length=0
  ·rw [IV (by rw [c3];rfl)];exact Jh (.inl ⟨_,rfl,pz h2 (.inl c3)⟩)
  ·rw [IU (by rw [JD];exact c3)];exact wR O nd bd hc hy0 hy0' h2 (by omega) hb hy q1' (by rw [IH];omega)
 ·rw [IU c2];have e0:S1.length=na:=by omega
  rw [e0] at q1';exact wR O nd bd hc hy0 hy0' h ha hb hy q1' hL
theorem Aw {o:List Nat} {na nb mg ac bc y0 g L:Nat} (hy0:lb[0]?=some y0) (hy0':∀ x∈la,lt y0 x=true) (h:Mg (fun x y=>lt y x) tot o (tkR la na) (tkR lb nb)) (ha:0 < na/\na<=la.length) (hb:1 < nb/\nb<=lb.length) (hL:L<=o.length+1) :
  wpS M Ar E s (hi1 (arK F la) (arK F lb) mg (none,na,nb,arK F o,ac,bc)) (fun r st=>(∃ c,r=.done c/\HD F lt κ X pd tot la lb L c.1 c.2.2.2.1 c.2.1 c.2.2.1 st)\/∃ c,r=.yield c/\c.1=none/\HI F lt κ X pd tot la lb L c.2.2.2.1 c.2.1 c.2.2.1 st) (SortSt.mk' κ X pd g none):=by
 unfold hi1;obtain ⟨y,hy⟩:∃ y,lb[nb - 1]?=some y:=⟨_,IG (by omega)⟩;obtain ⟨x,hx⟩:∃ x,la[na - 1]?=some x:=⟨_,IG (by omega)⟩;have ex:=eT ha.1 hx;have ey:=eT (by omega) hy;have hxm:x∈tkR la na:=by rw [ex];exact IP ..
 have hym:y∈tkR lb nb:=by rw [ey];exact IP ..
 dsimp only;refine aE hy (aE hx (Jm (hc _ _ _ _ rfl (bd _ (h.inB hym)) (bd _ (h.inA hxm)) ?_)));dsimp only;cases e:lt y x with
 | true =>
  rw [IV rfl];refine aE hx ?_;rw [cp];have h':Mg (fun x y=>lt y x) tot (o++[x]) (tkR la (na - 1)) (tkR lb nb):=by
   rw [ex] at h;refine Mg.left (A1:=[x]) h ?_;rw [ey] at h ⊢;exact h.symm.vg O.flip e
  have hL':L<=(o++[x]).length:=by rw [IH];exact hL
  by_cases c:na - 1=0
  ·rw [IV (by rw [c];rfl)];exact Jh (.inl ⟨_,rfl,.inl ⟨_,rfl,pz h' (.inl c)⟩⟩)
  ·rw [IU (by rw [JD];exact c)];split
   ·exact Jh (.inl ⟨_,rfl,.inr ⟨rfl,_,_,rfl,rfl,hL',h',by dsimp only;omega,hb⟩⟩)
   ·exact Jh (.inr ⟨_,rfl,rfl,_,_,rfl,rfl,hL',h',by dsimp only;omega,hb⟩)
 | false =>
  rw [IU Jj];refine aE hy ?_;rw [cp];have e':=Mg.les (lt:=fun x y=>lt y x) O.flip nd bd h.symm hym hxm e;have h':Mg (fun x y=>lt y x) tot (o++[y]) (tkR la na) (tkR lb (nb - 1)):=by
   rw [ey] at h;refine Mg.right (B1:=[y]) h ?_;rw [ex] at h ⊢;exact h.vg O.flip e'
  have hL':L<=(o++[y]).length:=by rw [IH];exact hL
  by_cases c:nb - 1=1
  ·rw [IV (by rw [c];rfl)];exact Jh (.inl ⟨_,rfl,.inl ⟨_,rfl,uy hy0 hy0' h' c⟩⟩)
  ·rw [IU (by rw [JD];exact c)];split
   ·exact Jh (.inl ⟨_,rfl,.inr ⟨rfl,_,_,rfl,rfl,hL',h',ha,by dsimp only;omega⟩⟩)
   ·exact Jh (.inr ⟨_,rfl,rfl,_,_,rfl,rfl,hL',h',ha,by dsimp only;omega⟩)
theorem o3 {g z y0:Nat} {Q:Array Keyed->SortSt->Prop} (hz:la[la.length - 1]?=some z) (hz':∀ y∈lb,lt y z=true) (hy0:lb[0]?=some y0) (hy0':∀ x∈la,lt y0 x=true) (sa:la.Pairwise fun x y=>lt x y=true) (sb:lb.Pairwise fun x y=>lt x y=true) (et:tot=la++lb)
  (h:∀ r st,FI F lt κ X pd tot r st->Q r st):wpS M Ar E s (i7 (arK F la) (arK F lb)) Q (SortSt.mk' κ X pd g none):=by
 have hal:1<=la.length:=by
  rcases Nat.eq_zero_or_pos la.length with e | e
  ·rw [Jw e] at hz;cases hz
  ·exact e
 have hbl:1<=lb.length:=by
  rcases Nat.eq_zero_or_pos lb.length with e | e
  ·rw [Jw e] at hy0;cases hy0
  ·exact e
 have hl:tot.length=la.length+lb.length:=by rw [et,IH]
 have h0:Mg (fun x y=>lt y x) tot [z] (tkR la (la.length - 1)) (tkR lb lb.length):=by
  have m0:Mg (fun x y=>lt y x) tot [] (tkR la la.length) (tkR lb lb.length):=by
   unfold tkR;rw [J2,J2];exact ⟨Kv.mpr sa,Kv.mpr sb,by rw [et,List.nil_append];exact List.Perm.append (Lf _) (Lf _)⟩
  rw [eT hal hz] at m0;refine Mg.left (A1:=[z]) m0 fun w hw x hx=>?_;rw [Ja] at hw;subst hw;unfold tkR at hx;rw [J2,Ku] at hx;exact hz' x hx
 rw [lZ];refine Jm (wpS_lift (Ke ⟨rfl,?_⟩));rw [aI,aI];refine aE hz ?_;rw [show (#[F z]:Array Keyed)=arK F [z] from rfl];by_cases c:la.length - 1=0
 ·rw [IV (by rw [c];rfl)];exact Jh (h _ _ (pz h0 (.inl c)))
 rw [IU (by rw [JD];exact c)];by_cases c:lb.length=1
 ·rw [IV (by rw [c];rfl)];exact Jh (h _ _ (uy hy0 hy0' h0 c))
 rw [IU (by rw [JD];exact c)];refine Jm (LV ?_);refine Jm (Kq (J5 (I:=fun i (c:Option (Array Keyed)×Nat×Nat×Array Keyed×Nat) st=>c.1=none/\HI F lt κ X pd tot la lb (i+1) c.2.2.2.1 c.2.1 c.2.2.1 st) (Q:=fun (c:Option (Array Keyed)×Nat×Nat×Array Keyed×Nat) st=>∃ r,c.1=some r/\FI F lt κ X pd tot r st) ?_ ?_ ⟨rfl,[z],_,rfl,rfl,IY _,h0,by dsimp only;omega,by dsimp only;omega⟩) ?_)
 ·rintro i ⟨r,na,nb,out,mg⟩ st _ hi ⟨e,o,g,e1,rfl,hL,hM,ha,hb⟩;dsimp only at e e1 hM ha hb ⊢;subst e e1;refine Jm (Kq (J5 (I:=fun j (c:DL) st=>c.1=none/\HI F lt κ X pd tot la lb (i+1+min j 1) c.2.2.2.1 c.2.1 c.2.2.1 st) (Q:=fun (c:DL) st=>HD F lt κ X pd tot la lb (i+2) c.1 c.2.2.2.1 c.2.1 c.2.2.1 st) ?_ ?_ ⟨rfl,o,_,rfl,rfl,hL,hM,ha,hb⟩) ?_)
  ·rintro j ⟨r,na,nb,out,ac,bc⟩ st _ hj ⟨e,o,g,e1,rfl,hL,hM,ha,hb⟩;dsimp only at e e1 hM ha hb hL ⊢;subst e e1;refine Kq (Aw O nd bd hc (L:=i+2) hy0 hy0' hM ha hb (by omega)) ?_;rintro r st (⟨c,rfl,q⟩ | ⟨c,rfl,e,o,g,q1,q2,q3,q4⟩)
   ·exact q
   ·exact ⟨e,o,g,q1,q2,by omega,q4⟩
  ·rintro ⟨r,na,nb,out,ac,bc⟩ st ⟨e,o,g,q1,q2,q3,q4⟩;exact .inr ⟨e,o,g,q1,q2,by omega,q4⟩
  ·rintro ⟨r,na,nb,out,ac,bc⟩ st (⟨r,e,q⟩ | ⟨e,o,g,e1,rfl,hL,hM,ha,hb⟩)
   ·dsimp only at e ⊢;subst e;exact Jh ⟨r,rfl,q⟩
   dsimp only at e e1 hM ha hb hL ⊢;subst e e1;refine Jm (wpS_lift (Ke ⟨rfl,?_⟩));refine Jm (Kq (J5 (I:=fun j (c:DG) st=>c.1=none/\HI F lt κ X pd tot la lb (i+2) c.2.2.2.1 c.2.1 c.2.2.1 st) (Q:=fun (c:DG) st=>HD F lt κ X pd tot la lb (i+2) c.1 c.2.2.2.1 c.2.1 c.2.2.1 st) ?_ ?_ ⟨rfl,o,_,rfl,rfl,hL,hM,ha,hb⟩) ?_)
   ·rintro j ⟨r,na,nb,out,mg,ac,bc⟩ st _ hj ⟨e,o,g,e1,rfl,hL,hM,ha,hb⟩;dsimp only at e e1 hM ha hb hL ⊢;subst e e1;split
    all_goals
     refine Kq (BO O nd bd hc (L:=i+2) hy0 hy0' hM ha hb (by omega)) ?_;rintro (c | c) st q
     ·exact q
     ·exact q
   ·rintro ⟨r,na,nb,out,mg,ac,bc⟩ st ⟨e,q⟩;exact .inr ⟨e,q⟩
   ·rintro ⟨r,na,nb,out,mg,ac,bc⟩ st (⟨r,e,q⟩ | ⟨e,o,g,e1,rfl,hL,hM,ha,hb⟩)
    ·dsimp only at e ⊢;subst e;exact Jh ⟨r,rfl,q⟩
    dsimp only at e e1 hM ha hb hL ⊢;subst e e1;rw [fy];exact Jm (La (Jh ⟨rfl,o,_,rfl,rfl,hL,hM,ha,hb⟩))
 ·rintro ⟨r,na,nb,out,mg⟩ st ⟨e,o,g,e1,rfl,hL,hM,ha,hb⟩;exfalso;have:=hM.len;dsimp only at this ha hb;rw [pR ha.2,pR hb.2] at this;omega
 ·rintro ⟨r,na,nb,out,mg⟩ st ⟨r,e,q⟩;dsimp only at e ⊢;subst e;exact Jh (h _ _ q)
end
end L2
end
section
namespace L2
open PySem PySem.Spec PyProof.Rows PySem.W
noncomputable def putAll (n:Nat) (a:Array Keyed) (m:List (Keyed×Nat)):Array Keyed:=m.foldl (fun a p=>a.setIfInBounds (n+p.2) p.1) a
theorem jS {n:Nat}:∀ (m U P T:List Keyed) (k:Nat) (a:Array Keyed),a.toList=P++U++T->P.length=n+k->U.length=m.length->(putAll n a (m.zipIdx k)).toList=P++m++T
 | [],[],P,T,k,a,h,_,_=>h
 | p :: m,u :: U,P,T,k,a,h,e,el=>by
  rw [List.zipIdx_cons];show (putAll n (a.setIfInBounds (n+k) p) (m.zipIdx (k+1))).toList=_;rw [jS m U (P++[p]) T (k+1) _ (by rw [Array.toList_setIfInBounds,h,<-e];simp) (by rw [IH,e];rfl) (by simpa using el)];simp
 | [],u :: U,P,T,k,a,h,_,el=>by cases el
 | p :: m,[],P,T,k,a,h,_,el=>by cases el
theorem oS {F:Nat->Keyed} {P U T o:List Nat} (h:U.length=o.length):putAll P.length (arK F (P++U++T)) (arK F o).toList.zipIdx=arK F (P++o++T):=by
 apply Ll.mp;rw [jS (arK F o).toList (U.map F) (P.map F) (T.map F) 0 _ (by simp [arK]) (by simp) (by simp [arK,h])];simp [arK]
section
variable {M:Model} {E:Value->Shared->Prop} {Ar:Around} {s:Shared} {F:Nat->Keyed} {lt:Nat->Nat->Bool} {N:Nat} {κ:SortKind} {pd:Array (Nat×Nat×Nat)}
theorem yh {σ:Type} {st st':σ} {Q:PUnit->σ->Prop} (h:Q ⟨⟩ st'):wpS M Ar E s (set st':StateT σ Sem PUnit) Q st:=by
 unfold wpS;rw [StateT.run_set];exact IJ ⟨rfl,h⟩
theorem pw_last {l:List Nat} {z:Nat} (hp:l.Pairwise fun x y=>lt x y=true) (hz:l[l.length - 1]?=some z) {x:Nat} (hx:x∈l):x=z\/lt x z=true:=by
 obtain ⟨i,hi,e⟩:=List.mem_iff_getElem.mp hx;obtain ⟨h1,e1⟩:=IK.mp hz;by_cases c:i=l.length - 1
 ·subst c;exact .inl (e.symm.trans e1)
 ·exact .inr (by have:=Kw.mp hp i (l.length - 1) hi h1 (by omega);rwa [e,e1] at this)
theorem sv {pre X Y post:List Nat} {i g pw pw2:Nat} {Q:Bool->SortSt->Prop} (O:Ord lt N) (nd:(X++Y).Nodup) (bd:∀ x∈X++Y,x < N) (hc:Cmp M Ar E s F lt N κ)
  (h1:pd[i]?=some (pre.length,X.length,pw)) (h2:pd[i+1]?=some (pre.length+X.length,Y.length,pw2)) (hX:X≠[]) (hY:Y≠[]) (sX:X.Pairwise fun x y=>lt x y=true) (sY:Y.Pairwise fun x y=>lt x y=true)
  (h:∀ Z g,Z.Pairwise (fun x y=>lt x y=true)->Z.Perm (X++Y)->Q true (SortSt.mk' κ (arK F (pre++Z++post)) ((pd.setIfInBounds i (pre.length,X.length+Y.length,pw)).eraseIdxIfInBounds (i+1)) g none)) :
  wpS M Ar E s (mergeAt' i) Q (SortSt.mk' κ (arK F (pre++(X++Y)++post)) pd g none):=by
 obtain ⟨y0,Y',rfl⟩:∃ y0 Y',Y=y0 :: Y':=by cases Y with | nil=>exact absurd rfl hY | cons a b=>exact ⟨a,b,rfl⟩
 have hXl:0 < X.length:=List.length_pos_iff.mpr hX;have dis:∀ x∈X,∀ y∈y0 :: Y',x≠y:=fun x hx y hy=>(JL.mp nd).2.2 x hx y hy;have bX:∀ x∈X,x < N:=fun x hx=>bd x (Jr _ hx);have bY:∀ x∈y0 :: Y',x < N:=fun x hx=>bd x (IS _ hx);have hy0:∀ y∈y0 :: Y',y0=y\/lt y0 y=true:=fun y hy=>by
  rcases Jb.mp hy with rfl | hy
  ·exact .inl rfl
  ·exact .inr ((JM.mp sY).1 _ hy)
 have up:∀ {x y:Nat},lt x y0=true->y∈y0 :: Y'->lt x y=true:=fun e hy=>by
  rcases hy0 _ hy with rfl | z
  ·exact e
  ·exact O.tr _ _ _ e z
 unfold mergeAt';refine Jm (LV ?_);dsimp only [SortSt.mk'];rw [h1,h2];dsimp only;refine Jm (yh ?_);refine aE (x:=y0) (by rw [Jn,IM (by omega),Jn,IM (by omega)];simp) ?_;refine Jm (nB (S:=X) O hc rfl (by simp) rfl sX bX (bY _ (IP ..)) hXl fun X1 X2 eX q1 q2=>?_);dsimp only;have q1':∀ x∈X1,lt x y0=true:=fun x hx=>by
  have:=q1 x hx;rw [IU Jj,KA] at this;have hx':x∈X:=by rw [eX];exact Jr _ hx
  exact O.tot _ _ (bY _ (IP ..)) (bX _ hx') (Ne.symm (dis _ hx' _ (IP ..))) this
 have q2':∀ x∈X2,lt y0 x=true:=fun x hx=>by
  have:=q2 x hx
  rwa [IU Jj,LA] at this
 have hl:X.length=X1.length+X2.length:=by rw [eX,IH]
 rw [show X.length - X1.length=X2.length by omega];by_cases c:X2.length=0
 ·rw [IV (by rw [c];rfl)];have e0:=Jw c;subst e0;rw [Jp] at eX;subst eX;exact Jh (h _ _ (Ji.mpr ⟨sX,sY,fun x hx y hy=>up (q1' x hx) hy⟩) (Kd _))
 rw [IU (by rw [JD];exact c)];obtain ⟨z,hz⟩:∃ z,X2[X2.length - 1]?=some z:=⟨_,IG (by omega)⟩;have hzm:z∈X2:=Jl hz;have hzX:z∈X:=by rw [eX];exact IS _ hzm
 have sX2:X2.Pairwise fun x y=>lt x y=true:=by rw [eX] at sX;exact (Ji.mp sX).2.1
 refine aE (x:=z) (by rw [eX,show pre.length+X1.length+X2.length - 1=pre.length+(X1.length+(X2.length - 1)) by omega,Jn,IM (by omega),KG,Jn,Jn,IM (by omega),KG,Jg (by omega)];exact hz) ?_;refine Jm (nB (S:=y0 :: Y') O hc rfl (by rw [<- Jn,<-IH,Jn,Lz,List.take_left]) rfl sY bY (bX _ hzX) (by simp) fun Y1 Y2 eY r1 r2=>?_);dsimp only;have r2':∀ y∈Y2,lt z y=true:=fun y hy=>by
  have:=r2 y hy;rw [IV rfl] at this;have hy':y∈y0 :: Y':=by rw [eY];exact IS _ hy
  exact O.tot _ _ (bY _ hy') (bX _ hzX) (Ne.symm (dis _ hzX _ hy')) this
 have zup:∀ x∈X2,∀ y∈Y2,lt x y=true:=fun x hx y hy=>by
  rcases pw_last sX2 hz hx with rfl | e
  ·exact r2' y hy
  ·exact O.tr _ _ _ e (r2' y hy)
 by_cases c1:Y1.length=0
 ·exfalso;have e0:=Jw c1;subst e0;rw [List.nil_append] at eY;have a1:=r2' y0 (by rw [<- eY];exact IP ..);have a2:=O.tr _ _ _ a1 (q2' z hzm);rw [O.irr] at a2;exact absurd a2 (by decide)
 rw [IU (by rw [JD];exact c1)];obtain ⟨B,eB⟩:∃ B,Y1=y0 :: B:=by
  cases Y1 with
  | nil=>exact absurd rfl c1
  | cons a b=>exact ⟨b,by rw [LS] at eY;rw [(List.cons.inj eY).1]⟩
 have ex:(arK F (pre++(X++y0 :: Y')++post)).extract (pre.length+X1.length) (pre.length+X.length)=arK F X2:=by
  rw [oe,eX,show pre.length+(X1++X2).length - (pre.length+X1.length)=X2.length by rw [IH];omega];congr 1;rw [<- IH,show pre++(X1++X2++y0 :: Y')++post=(pre++X1)++(X2++(y0 :: Y'++post)) by simp,Lz,List.take_left]
 have ey:(arK F (pre++(X++y0 :: Y')++post)).extract (pre.length+X.length) (pre.length+X.length+Y1.length)=arK F Y1:=by
  rw [oe,KG,eY];congr 1;rw [<- IH,show pre++(X++(Y1++Y2))++post=(pre++X)++(Y1++(Y2++post)) by simp,Lz,List.take_left]
 rw [ex,ey];have sY1:=sY;rw [eY] at sY1;have hz':∀ y∈Y1,lt y z=true:=fun y hy=>by have:=r1 y hy;rwa [IV rfl] at this
 have nd2:(X2++Y1).Nodup:=by
  rw [eX,eY,Jn] at nd;have n2:=(JL.mp nd).2.1;rw [<- Jn] at n2;exact (JL.mp n2).1
 have bd2:∀ x∈X2++Y1,x < N:=fun x hx=>by
  rcases Jv.mp hx with hx | hx
  ·exact bX x (by rw [eX];exact IS _ hx)
  ·exact bY x (by rw [eY];exact Jr _ hx)
 have fin:∀ (r:Array Keyed) (st:SortSt),FI F lt κ (arK F (pre++(X++y0 :: Y')++post)) ((pd.setIfInBounds i (pre.length,X.length+(y0 :: Y').length,pw)).eraseIdxIfInBounds (i+1)) (X2++Y1) r st ->
   wpS M Ar E s (do
    modify fun s=>setArr s (putAll (pre.length+X1.length) (arrOf s) r.toList.zipIdx)
    let st<-get
    pure (failedOf st).isNone) Q st:=by
  rintro _ _ ⟨o,g,rfl,rfl,so,po⟩;refine Jm (La (Jm (LV (Jh ?_))));show Q true (SortSt.mk' κ (putAll (pre.length+X1.length) (arK F (pre++(X++y0 :: Y')++post)) (arK F o).toList.zipIdx) _ g none);have e1:putAll (pre.length+X1.length) (arK F (pre++(X++y0 :: Y')++post)) (arK F o).toList.zipIdx=arK F (pre++(X1++o++Y2)++post):=by
   rw [<- IH,eX,eY,show pre++(X1++X2++(Y1++Y2))++post=(pre++X1)++(X2++Y1)++(Y2++post) by simp,oS po.length_eq.symm];simp
  rw [e1];refine h _ _ ?_ ?_
  ·have sX':=sX;rw [eX] at sX';rw [Jn];refine Ji.mpr ⟨(Ji.mp sX').1,Ji.mpr ⟨so,(Ji.mp sY1).2.1,fun x hx y hy=>?_⟩,fun x hx y hy=>?_⟩
   ·rcases Jv.mp (po.mem_iff.mp hx) with hx | hx
    ·exact zup x hx y hy
    ·exact (Ji.mp sY1).2.2 x hx y hy
   ·rcases Jv.mp hy with hy | hy
    ·rcases Jv.mp (po.mem_iff.mp hy) with hy | hy
     ·exact (Ji.mp sX').2.2 x hx y hy
     ·exact up (q1' x hx) (by rw [eY];exact Jr _ hy)
    ·exact up (q1' x hx) (by rw [eY];exact IS _ hy)
  ·rw [eX,eY,Jn,Jn];refine KR _ ?_;rw [<- Jn];exact List.Perm.append_right _ po
 split
 ·exact Jm (sC O nd2 bd2 hc hz hz' eB q2' sX2 (Ji.mp sY1).1 rfl fin)
 ·exact Jm (o3 O nd2 bd2 hc hz hz' (y0:=y0) (by rw [eB];rfl) q2' sX2 (Ji.mp sY1).1 rfl fin)
end
end L2
end
section
namespace L2
open PySem PySem.Spec PyProof.Rows PySem.W
section
variable {F:Nat->Keyed}
theorem cZ {l:List Nat} {k:Nat}:(arK F l)[k]?=(l[k]?).map F:=by simp [arK]
theorem qN {pre S T:List Nat}:mirror (arK F (pre++(S++T))) pre.length (pre.length+S.length) ((pre.length+S.length - pre.length) / 2)=arK F (pre++(S.reverse++T)):=by
 apply Array.ext_getElem?;intro k;rw [getElem?_mirror_all (by rw [aI,IH,IH];omega),cZ,cZ,cZ];by_cases c1:k < pre.length
 ·rw [IU (by omega),Jg c1,Jg c1]
 ·rw [IM (l₁:=pre) (i:=k) (by omega),IM (l₁:=pre) (i:=k) (by omega)];by_cases c2:k < pre.length+S.length
  ·rw [IV (by omega),IM (by omega),Jg (by omega),Jg (by rw [Lq];omega),List.getElem?_reverse (by omega)];congr 2;omega
  ·rw [IU (by omega),IM (l₁:=S) (by omega),IM (l₁:=S.reverse) (by rw [Lq];omega),Lq]
theorem rD {pre S1 S2 T:List Nat} {x:Nat}:bubble (arK F (pre++(S1++S2++x :: T))) (pre.length+(S1++S2).length) (pre.length+(S1++S2).length - (pre.length+S1.length))=arK F (pre++(S1++x :: S2++T)):=by
 apply Array.ext_getElem?;intro k;have hs:pre.length+(S1++S2).length < (arK F (pre++(S1++S2++x :: T))).size:=by rw [aI];simp only [IH,Jf];omega
 rw [getElem?_bubble hs _ (by omega),cZ,cZ,cZ,cZ,show pre++(S1++S2++x :: T)=(pre++S1)++(S2++x :: T) by simp,show pre++(S1++x :: S2++T)=(pre++S1)++(x :: (S2++T)) by simp];rw [IH];have hl:(pre++S1).length=pre.length+S1.length:=IH;have e0:pre.length+(S1.length+S2.length) - (pre.length+(S1.length+S2.length) - (pre.length+S1.length))=pre.length+S1.length:=by omega
 rw [e0];by_cases c1:k=pre.length+S1.length
 ·subst c1;rw [IV rfl,IM (by omega),IM (l₁:=pre++S1) (by omega),hl,show pre.length+(S1.length+S2.length) - (pre.length+S1.length)=S2.length by omega,IM (by omega),Lr,Lr];rfl
 ·rw [IU c1];by_cases c2:k < pre.length+S1.length
  ·rw [IU (by omega),Jg (l₁:=pre++S1) (by omega),Jg (l₁:=pre++S1) (by omega)]
  ·by_cases c3:k<=pre.length+(S1.length+S2.length)
   ·rw [IV (by omega),IM (by omega),IM (l₁:=pre++S1) (i:=k) (by omega),hl,Jg (by omega),show k - (pre.length+S1.length)=(k - 1 - (pre.length+S1.length))+1 by omega,List.getElem?_cons_succ,Jg (by omega)]
   ·rw [IU (by omega),IM (by omega),IM (l₁:=pre++S1) (i:=k) (by omega),hl,IM (l₁:=S2) (by omega),show k - (pre.length+S1.length)=(k - (pre.length+S1.length) - 1)+1 by omega,List.getElem?_cons_succ,IM (l₁:=S2) (by omega),show k - (pre.length+S1.length) - 1+1 - S2.length=(k - (pre.length+S1.length) - 1 - S2.length)+1 by omega,List.getElem?_cons_succ]
end
noncomputable def Gz (lo:Nat) (c:Option (Option Nat)×Nat):StateT SortSt Sem (ForInStep (Option (Option Nat)×Nat)):=do
 let some smaller<-ltAt' (lo+c.2) (lo+c.2 - 1) | return .done (some none,c.2)
 if smaller then return .done (none,c.2)
 return .yield (none,c.2+1)
section
variable {M:Model} {E:Value->Shared->Prop} {Ar:Around} {s:Shared} {F:Nat->Keyed} {lt:Nat->Nat->Bool} {N:Nat} {κ:SortKind} {pd:Array (Nat×Nat×Nat)} {g:Nat}
theorem jF {l:List Nat} {i j x y:Nat} {Q:Option Bool->SortSt->Prop} (hc:Cmp M Ar E s F lt N κ) (bd:∀ x∈l,x < N) (hi:l[i]?=some x) (hj:l[j]?=some y) (q:Q (some (lt x y)) (SortSt.mk' κ (arK F l) pd g none)):wpS M Ar E s (ltAt' i j) Q (SortSt.mk' κ (arK F l) pd g none):=by
 rw [ltAt'_eq];refine Jm (LV ?_);exact aE hi (aE hj (hc _ _ _ _ rfl (bd _ (Jl hi)) (bd _ (Jl hj)) q))
theorem eQ {pre S T:List Nat} {k x:Nat} (h:(S++T)[k]?=some x):(pre++(S++T))[pre.length+k]?=some x:=by rw [IM (by omega),KG,h]
theorem pE {S:List Nat} (h:0 < S.length):∃ z,S[S.length - 1]?=some z:=⟨_,IG (by omega)⟩
theorem pw_snoc {S:List Nat} {x y:Nat} (O:Ord lt N) (hp:S.Pairwise fun x y=>lt x y=true) (hz:S[S.length - 1]?=some x) (e:lt x y=true):(S++[y]).Pairwise fun x y=>lt x y=true:=by
 refine Ji.mpr ⟨hp,List.pairwise_singleton _ _,fun a ha b hb=>?_⟩;rw [Ja] at hb;subst hb;rcases pw_last hp hz ha with rfl | z
 ·exact e
 ·exact O.tr _ _ _ z e
theorem CC {pre S T:List Nat} {n nrem:Nat} {Q:Option (Option Nat)×Nat->SortSt->Prop} (O:Ord lt N) (hc:Cmp M Ar E s F lt N κ) (bd:∀ x∈pre++(S++T),x < N) (nd:(S++T).Nodup) (hn:S.length=n) (h1:1<=n) (hr:(S++T).length=nrem) (sS:S.Pairwise fun x y=>lt x y=true)
  (h:∀ S' T',S'++T'=S++T->S'.Pairwise (fun x y=>lt x y=true)->n<=S'.length->(∀ x y T'',T'=y :: T''->S'[S'.length - 1]?=some x->lt y x=true)->Q (none,S'.length) (SortSt.mk' κ (arK F (pre++(S++T))) pd g none)) :
  wpS M Ar E s (forIn [n:nrem] ((none,n):Option (Option Nat)×Nat) fun _ c=>Gz pre.length c) Q (SortSt.mk' κ (arK F (pre++(S++T))) pd g none):=by
 refine J5 (I:=fun i (c:Option (Option Nat)×Nat) st=>c=(none,i)/\st=SortSt.mk' κ (arK F (pre++(S++T))) pd g none/\∃ S' T',S'++T'=S++T/\S'.Pairwise (fun x y=>lt x y=true)/\S'.length=i) ?_ ?_ ⟨rfl,rfl,S,T,rfl,sS,hn⟩
 ·rintro i _ _ hi1 hi2 ⟨rfl,rfl,S',T',e,sS',el⟩;unfold Gz;dsimp only;obtain ⟨x,hx⟩:=pE (S:=S') (by omega);have hl:S'.length+T'.length=nrem:=by rw [<- IH,e,hr]
  obtain ⟨y,T'',rfl⟩:∃ y T'',T'=y :: T'':=by cases T' with | nil=>rw [Kp] at hl;omega | cons a b=>exact ⟨a,b,rfl⟩
  rw [<- e] at bd h nd ⊢;refine Jm (jF hc bd (x:=y) (y:=x) (eQ (by rw [<- el,IM (IY _),Lr];rfl)) (by rw [Nat.add_sub_assoc (by omega)];exact eQ (by rw [<- el,Jg (by omega)];exact hx)) ?_);dsimp only;cases c:lt y x with
  | true =>
   rw [IV rfl];have:=h S' (y :: T'') rfl sS' (by omega) (fun x' y' T3 e1 e2=>by rw [hx] at e2;injection e1 with e1 _;injection e2 with e2;subst e1 e2;exact c);rw [el] at this;exact Jh this
  | false =>
   rw [IU Jj];have hne:x≠y:=(JL.mp nd).2.2 x (Jl hx) y (IP ..);have hxy:lt x y=true:=O.tot y x (bd _ (IS _ (IS _ (IP ..)))) (bd _ (IS _ (Jr _ (Jl hx)))) (Ne.symm hne) c;exact Jh ⟨rfl,rfl,S'++[y],T'',by simp,pw_snoc O sS' hx hxy,by rw [IH,el];rfl⟩
 ·rintro _ _ ⟨rfl,rfl,S',T',e,sS',el⟩;have hl:S'.length+T'.length=nrem:=by rw [<- IH,e,hr]
  have hS:n<=nrem:=by rw [<- hr,<-hn,IH];omega
  have e0:T'=[]:=Jw (by omega);subst e0;rw [<- el];exact h S' [] e sS' (by omega) (fun _ _ _ e1=>by cases e1)
theorem w_count {pre R:List Nat} {nrem:Nat} {Q:Option Nat->SortSt->Prop} (O:Ord lt N) (hc:Cmp M Ar E s F lt N κ) (bd:∀ x∈pre++R,x < N) (nd:R.Nodup) (hr:R.length=nrem) (h1:1<=nrem)
  (h:∀ S T,(S++T).Perm R->S.Pairwise (fun x y=>lt x y=true)->1<=S.length->Q (some S.length) (SortSt.mk' κ (arK F (pre++(S++T))) pd g none)) :
  wpS M Ar E s (countRun' pre.length nrem) Q (SortSt.mk' κ (arK F (pre++R)) pd g none):=by
 obtain ⟨a,R',rfl⟩:∃ a R',R=a :: R':=by cases R with | nil=>rw [Kp] at hr;omega | cons a b=>exact ⟨a,b,rfl⟩
 rw [countRun'_eq];dsimp only;refine Jm (CC (S:=[a]) (T:=R') O hc bd nd rfl (IY _) hr (List.pairwise_singleton _ _) fun S T e sS hS hst=>?_);dsimp only;by_cases c:S.length=nrem
 ·rw [IV (by rw [c];exact JN _),<-e];exact Jh (h S T (by rw [e];exact Kd _) sS hS)
 rw [IU (by rw [JD];exact c)];by_cases c2:S.length > 1
 ·rw [IV c2];obtain ⟨z,hz⟩:=pE (S:=S) (by omega);have hSa:S[0]?=some a:=by
   cases S with
   | nil=>exact absurd hS (by decide)
   | cons b S=>rw [LS,List.singleton_append] at e;rw [(List.cons.inj e).1];rfl
  have hlt:lt a z=true:=by
   obtain ⟨u1,u2⟩:=IK.mp hSa;obtain ⟨u3,u4⟩:=IK.mp hz;have:=Kw.mp sS 0 (S.length - 1) u1 u3 (by omega)
   rwa [u2,u4] at this
  rw [<- e];refine Jm (jF hc (by rw [e];exact bd) (x:=a) (y:=z) (by rw [<- Nat.add_zero pre.length];exact eQ (by rw [Jg (by omega)];exact hSa)) (by rw [Nat.add_sub_assoc (by omega)];exact eQ (by rw [Jg (by omega)];exact hz)) ?_);dsimp only;rw [hlt,IV rfl];exact Jh (h S T (by rw [e];exact Kd _) sS hS)
 rw [IU c2];refine Jm (wpS_lift (Ke ⟨rfl,?_⟩));have hS1:S.length=1:=by omega
 obtain ⟨rfl,rfl⟩:S=[a]/\T=R':=List.append_inj e hS1;rw [KP];obtain ⟨b,R2,rfl⟩:∃ b R2,T=b :: R2:=by cases T with | nil=>exact absurd hr c | cons a b=>exact ⟨a,b,rfl⟩
 have hba:=hst a b R2 rfl rfl
 refine Jm (Kq (J5 (I:=fun i (c:Option (Option Nat)×Nat×Nat) st=>c=(none,i,0)/\st=SortSt.mk' κ (arK F (pre++([a]++b :: R2))) pd g none/\∃ S' T',S'++T'=[a]++b :: R2/\S'.Pairwise (fun x y=>lt y x=true)/\S'.length=i/\2<=i)
  (Q:=fun (c:Option (Option Nat)×Nat×Nat) st=>∃ n,c=(none,n,0)/\st=SortSt.mk' κ (arK F (pre++([a]++b :: R2))) pd g none/\∃ S' T',S'++T'=[a]++b :: R2/\S'.Pairwise (fun x y=>lt y x=true)/\S'.length=n/\2<=n)
  ?_ (fun c st z=>⟨_,z⟩) ⟨rfl,rfl,[a,b],R2,rfl,by simpa using hba,rfl,IY _⟩) ?_)
 ·rintro i _ _ hi1 hi2 ⟨rfl,rfl,S',T',e,sS',el,h2⟩;dsimp only;obtain ⟨x,hx⟩:=pE (S:=S') (by omega);have hl:S'.length+T'.length=nrem:=by rw [<- IH,e,<-hr];rfl
  obtain ⟨y,T'',rfl⟩:∃ y T'',T'=y :: T'':=by cases T' with | nil=>rw [Kp] at hl;omega | cons a b=>exact ⟨a,b,rfl⟩
  have bd':∀ x∈pre++(S'++y :: T''),x < N:=by rw [e];exact bd
  have nd':(S'++y :: T'').Nodup:=by rw [e];exact nd
  have gy:(pre++(S'++y :: T''))[pre.length+i]?=some y:=eQ (by rw [<- el,IM (IY _),Lr];rfl);have gx:(pre++(S'++y :: T''))[pre.length+i - 1]?=some x:=by rw [Nat.add_sub_assoc (by omega)];exact eQ (by rw [<- el,Jg (by omega)];exact hx)
  rw [<- e];refine Jm (jF hc bd' gy gx ?_);dsimp only;cases c:lt y x with
  | true =>
   rw [IV rfl,IU (by decide)];exact Jh ⟨rfl,rfl,S'++[y],T'',by simp,pw_snoc (lt:=fun x y=>lt y x) O.flip sS' hx c,by rw [IH,el];rfl,by omega⟩
  | false =>
   rw [IU Jj];have hne:x≠y:=(JL.mp nd').2.2 x (Jl hx) y (IP ..);have hxy:lt x y=true:=O.tot y x (bd' _ (IS _ (IS _ (IP ..)))) (bd' _ (IS _ (Jr _ (Jl hx)))) (Ne.symm hne) c;refine Jm (jF hc bd' gx gy ?_);dsimp only;rw [hxy,IV rfl];exact Jh ⟨i,rfl,rfl,S',_,rfl,sS',el,h2⟩
 ·rintro _ _ ⟨n,rfl,rfl,S',T',e,sS',el,h2⟩;dsimp only;rw [IU (by decide),reverseSlice'_eq,<-e];refine Jm (La ?_);have em:mirror (arK F (pre++(S'++T'))) pre.length (pre.length+n) ((pre.length+n - pre.length) / 2)=arK F (pre++(S'.reverse++T')):=by rw [<- el];exact qN
  show wpS M Ar E s _ Q (SortSt.mk' κ (mirror (arK F (pre++(S'++T'))) pre.length (pre.length+n) ((pre.length+n - pre.length) / 2)) pd g none);rw [em];have pr:(S'.reverse++T').Perm ([a]++b :: R2):=by rw [<- e];exact List.Perm.append_right _ (Lf _)
  refine Jm (CC (S:=S'.reverse) (T:=T') O hc (fun x hx=>?_) (pr.nodup_iff.mpr nd) (by rw [Lq];exact el) (by omega) (by rw [pr.length_eq];exact hr) (Kv.mpr sS') fun S3 T3 e3 s3 l3 _=>?_)
  ·rcases Jv.mp hx with hx | hx
   ·exact bd x (Jr _ hx)
   ·exact bd x (IS _ (pr.mem_iff.mp hx))
  ·dsimp only;rw [<- e3] at pr ⊢;exact Jh (h S3 T3 pr s3 (by omega))
noncomputable def plB (lo k:Nat) (c:Option Bool×Nat×Nat):StateT SortSt Sem (ForInStep (Option Bool×Nat×Nat)) :=
 if c.2.1>=c.2.2 then pure (.done (none,c.2.1,c.2.2)) else do
  let some less<-ltAt' (lo+k) (lo+(c.2.1+c.2.2) / 2) | return .done (some false,c.2.1,c.2.2)
  if less then return .yield (none,c.2.1,(c.2.1+c.2.2) / 2)
  return .yield (none,(c.2.1+c.2.2) / 2+1,c.2.2)
theorem wW {pre S T:List Nat} {k y:Nat} {Q:Option Bool×Nat×Nat->SortSt->Prop} (O:Ord lt N) (hc:Cmp M Ar E s F lt N κ) (bd:∀ x∈pre++(S++y :: T),x < N) (nd:(S++y :: T).Nodup) (hk:S.length=k) (sS:S.Pairwise fun x y=>lt x y=true)
  (h:∀ S1 S2,S=S1++S2->(∀ x∈S1,lt x y=true)->(∀ x∈S2,lt y x=true)->∀ r,Q (none,S1.length,r) (SortSt.mk' κ (arK F (pre++(S++y :: T))) pd g none)) :
  wpS M Ar E s (forIn [0:k] ((none,0,k):Option Bool×Nat×Nat) fun _ c=>plB pre.length k c) Q (SortSt.mk' κ (arK F (pre++(S++y :: T))) pd g none):=by
 have fin:∀ l,l<=k->(∀ i,i < l->∀ x,S[i]?=some x->lt y x=false)->(∀ i,l<=i->i < k->∀ x,S[i]?=some x->lt y x=true)->∀ r,Q (none,l,r) (SortSt.mk' κ (arK F (pre++(S++y :: T))) pd g none):=fun l hl a1 a2 r=>by
  obtain ⟨S1,S2,e,el,b1,b2⟩:=mE (S:=S) (P:=fun x=>!lt y x) (k:=l) (by omega) (fun i hi x e=>by rw [a1 i hi x e];rfl) (fun i hi hi' x e=>by rw [a2 i hi (by omega) x e];rfl);rw [<- el];refine h S1 S2 e (fun x hx=>?_) (fun x hx=>?_) r
  ·have b:=b1 x hx;rw [KA] at b;have hx':x∈S:=by rw [e];exact Jr _ hx
   exact O.tot _ _ (bd _ (IS _ (IS _ (IP ..)))) (bd _ (IS _ (Jr _ hx'))) (Ne.symm ((JL.mp nd).2.2 x hx' y (IP ..))) b
  ·have b:=b2 x hx
   rwa [LA] at b
 have mono:∀ i j x x',i < j->S[i]?=some x->S[j]?=some x'->lt x x'=true:=fun i j x x' hij e1 e2=>by
  obtain ⟨u1,u2⟩:=IK.mp e1;obtain ⟨u3,u4⟩:=IK.mp e2;have:=Kw.mp sS i j u1 u3 hij
  rwa [u2,u4] at this
 refine J5 (I:=fun i (c:Option Bool×Nat×Nat) st=>st=SortSt.mk' κ (arK F (pre++(S++y :: T))) pd g none/\c.1=none/\c.2.1<=c.2.2/\c.2.2<=k/\c.2.2 - c.2.1<=k - i/\(∀ i,i < c.2.1->∀ x,S[i]?=some x->lt y x=false)/\(∀ i,c.2.2<=i->i < k->∀ x,S[i]?=some x->lt y x=true)) ?_ ?_ ⟨rfl,rfl,JZ _,IY _,IY _,fun i z=>absurd z (Nat.not_lt_zero _),fun i z z'=>absurd z (by dsimp only;omega)⟩
 ·rintro i ⟨r,lo,hi⟩ _ _ hi' ⟨rfl,e,a1,a2,a3,a4,a5⟩;dsimp only at e a1 a2 a3 a4 a5;subst e;unfold plB;dsimp only;by_cases c:lo>=hi
  ·rw [IV c];exact Jh (fin lo (by omega) a4 (fun i z z'=>a5 i (by omega) z') hi)
  ·rw [IU c];obtain ⟨x,hx⟩:∃ x,S[(lo+hi) / 2]?=some x:=⟨_,IG (by omega)⟩;refine Jm (jF hc bd (x:=y) (y:=x) (eQ (by rw [<- hk,IM (IY _),Lr];rfl)) (eQ (by rw [Jg (by omega)];exact hx)) ?_);dsimp only;cases e:lt y x with
   | true =>
    rw [IV rfl];refine Jh ⟨rfl,rfl,by dsimp only;omega,by dsimp only;omega,by dsimp only;omega,a4,fun i z z' x' hx'=>?_⟩;dsimp only at z;rcases Nat.lt_or_eq_of_le z with z | z
    ·exact O.tr _ _ _ e (mono _ _ _ _ z hx hx')
    ·rw [<- z,hx] at hx';injection hx' with hx';rw [<- hx'];exact e
   | false =>
    rw [IU Jj];refine Jh ⟨rfl,rfl,by dsimp only;omega,by dsimp only;omega,by dsimp only;omega,fun i z x' hx'=>?_,a5⟩;dsimp only at z;by_cases z2:i=(lo+hi) / 2
    ·rw [z2,hx] at hx';injection hx' with hx';rw [<- hx'];exact e
    ·cases e2:lt y x' with
     | false=>rfl
     | true=>rw [O.tr _ _ _ e2 (mono _ _ _ _ (by omega) hx' hx)] at e;exact absurd e (by decide)
 ·rintro ⟨r,lo,hi⟩ _ ⟨rfl,e,a1,a2,a3,a4,a5⟩;dsimp only at e a1 a2 a3 a4 a5;subst e;exact fin lo (by omega) a4 (fun i z z'=>a5 i (by omega) z') hi
theorem Dv {pre R:List Nat} {n ok:Nat} {S T:List Nat} {Q:Bool->SortSt->Prop} (O:Ord lt N) (hc:Cmp M Ar E s F lt N κ) (bd:∀ x∈pre++(S++T),x < N) (nd:(S++T).Nodup) (hS:S.length=ok) (h1:1<=ok) (hn:ok<=n) (hr:n<=(S++T).length) (sS:S.Pairwise fun x y=>lt x y=true)
  (h:∀ S' T',(S'++T').Perm (S++T)->S'.Pairwise (fun x y=>lt x y=true)->S'.length=n->Q true (SortSt.mk' κ (arK F (pre++(S'++T'))) pd g none)) :
  wpS M Ar E s (binarySort' pre.length n ok) Q (SortSt.mk' κ (arK F (pre++(S++T))) pd g none):=by
 rw [binarySort'_eq,Nat.max_eq_left h1];dsimp only
 refine Jm (Kq (J5 (I:=fun k (c:Option Bool×PUnit) st=>c=(none,⟨⟩)/\∃ S' T',(S'++T').Perm (S++T)/\S'.Pairwise (fun x y=>lt x y=true)/\S'.length=k/\st=SortSt.mk' κ (arK F (pre++(S'++T'))) pd g none)
  (Q:=fun (c:Option Bool×PUnit) st=>c=(none,⟨⟩)/\∃ S' T',(S'++T').Perm (S++T)/\S'.Pairwise (fun x y=>lt x y=true)/\S'.length=n/\st=SortSt.mk' κ (arK F (pre++(S'++T'))) pd g none) ?_ ?_ ⟨rfl,S,T,Kd _,sS,hS,rfl⟩) ?_)
 ·rintro k _ _ hk1 hk2 ⟨rfl,S',T',pm,sS',el,rfl⟩;have hl:S'.length+T'.length=(S++T).length:=by rw [<- IH,pm.length_eq]
  obtain ⟨y,T'',rfl⟩:∃ y T'',T'=y :: T'':=by cases T' with | nil=>rw [Kp] at hl;omega | cons a b=>exact ⟨a,b,rfl⟩
  refine Jm (wW O hc (fun x hx=>?_) (pm.nodup_iff.mpr nd) el sS' fun S1 S2 e q1 q2 r=>?_)
  ·rcases Jv.mp hx with hx | hx
   ·exact bd x (Jr _ hx)
   ·exact bd x (IS _ (pm.mem_iff.mp hx))
  ·dsimp only;rw [moveDown'_eq];refine Jm (La (Jh ⟨rfl,S1++y :: S2,T'',?_,?_,?_,?_⟩))
   ·refine List.Perm.trans ?_ pm;rw [e,Jn,Jn];refine KR _ ?_;rw [LS];exact List.perm_middle.symm
   ·rw [e] at sS';have z:=Ji.mp sS';refine Ji.mpr ⟨z.1,JM.mpr ⟨q2,z.2.1⟩,fun a ha b hb=>?_⟩;rcases Jb.mp hb with rfl | hb
    ·exact q1 a ha
    ·exact z.2.2 a ha b hb
   ·rw [<- el,e];simp only [IH,Jf];omega
   ·have eb:=rD (F:=F) (pre:=pre) (S1:=S1) (S2:=S2) (T:=T'') (x:=y);rw [<- e,el] at eb;show SortSt.mk' κ (bubble (arK F (pre++(S'++y :: T''))) (pre.length+k) (pre.length+k - (pre.length+S1.length))) pd g none=_;rw [eb]
 ·rintro _ _ ⟨rfl,S',T',pm,sS',el,rfl⟩;exact ⟨rfl,S',T',pm,sS',by omega,rfl⟩
 ·rintro _ _ ⟨rfl,S',T',pm,sS',el,rfl⟩;exact Jh (h S' T' pm sS' el)
end
end L2
end
section
namespace L2
open PySem PySem.Spec PyProof.Rows PySem.W
noncomputable def Mt (lt:Nat->Nat->Bool):List (Nat×Nat×Nat)->Nat->List Nat->Prop
 | [],_,l=>l=[]
 | r :: ps,s,l=>r.1=s/\∃ X l',l=X++l'/\X.length=r.2.1/\X≠[]/\X.Pairwise (fun x y=>lt x y=true)/\Mt lt ps (s+r.2.1) l'
section
variable {lt:Nat->Nat->Bool}
theorem Mt.app:∀ {ps qs:List (Nat×Nat×Nat)} {s:Nat} {l:List Nat},Mt lt (ps++qs) s l->∃ l1 l2,l=l1++l2/\Mt lt ps s l1/\Mt lt qs (s+l1.length) l2
 | [],qs,s,l,h=>⟨[],l,rfl,rfl,h⟩
 | r :: ps,qs,s,l,h=>by
  obtain ⟨e,X,l',rfl,el,hX,sX,h⟩:=h;obtain ⟨l1,l2,rfl,h1,h2⟩:=Mt.app h;exact ⟨X++l1,l2,(Jn ..).symm,⟨e,X,l1,rfl,el,hX,sX,h1⟩,by rw [IH,el,<-Nat.add_assoc];exact h2⟩
theorem Mt.Fj:∀ {ps qs:List (Nat×Nat×Nat)} {s:Nat} {l1 l2:List Nat},Mt lt ps s l1->Mt lt qs (s+l1.length) l2->Mt lt (ps++qs) s (l1++l2)
 | [],qs,s,l1,l2,h,h2=>by
  have h:l1=[]:=h;subst h;exact h2
 | r :: ps,qs,s,l1,l2,h,h2=>by
  obtain ⟨e,X,l',rfl,el,hX,sX,h⟩:=h;exact ⟨e,X,l'++l2,Jn ..,el,hX,sX,Mt.Fj h (by rw [IH,el,<-Nat.add_assoc] at h2;exact h2)⟩
theorem Mt.len:∀ {ps:List (Nat×Nat×Nat)} {s:Nat} {l:List Nat},Mt lt ps s l->ps.length<=l.length
 | [],s,l,h=>JZ _
 | r :: ps,s,l,h=>by
  obtain ⟨e,X,l',rfl,el,hX,sX,h⟩:=h;have:=List.length_pos_iff.mpr hX;have:=Mt.len h;rw [IH,Jf];omega
theorem Mt.mod {f:Nat×Nat×Nat->Nat×Nat×Nat} (hf:∀ r,(f r).1=r.1/\(f r).2.1=r.2.1):∀ {ps:List (Nat×Nat×Nat)} {i s:Nat} {l:List Nat},Mt lt ps s l->Mt lt (ps.modify i f) s l
 | [],i,s,l,h=>by rw [List.modify_nil];exact h
 | r :: ps,0,s,l,h=>by
  rw [List.modify_zero_cons];unfold Mt at h ⊢;rw [(hf r).1,(hf r).2];exact h
 | r :: ps,i+1,s,l,h=>by
  rw [List.modify_succ_cons];obtain ⟨e,X,l',rfl,el,hX,sX,h⟩:=h;exact ⟨e,X,l',rfl,el,hX,sX,Mt.mod hf h⟩
theorem Mt.Io {ps:List (Nat×Nat×Nat)} {s:Nat} {l:List Nat} (h:Mt lt ps s l) (e:ps.length<=1):l.Pairwise fun x y=>lt x y=true:=by
 match ps,h,e with
 | [],h,_ =>
  have h:l=[]:=h;subst h;exact List.Pairwise.nil
 | [r],h,_ =>
  obtain ⟨e,X,l',rfl,el,hX,sX,h⟩:=h;have h:l'=[]:=h;subst h;rw [Jp];exact sX
end
section
variable {M:Model} {E:Value->Shared->Prop} {Ar:Around} {s:Shared} {F:Nat->Keyed} {lt:Nat->Nat->Bool} {N:Nat} {κ:SortKind} {l0:List Nat}
noncomputable def SoI (F:Nat->Keyed) (lt:Nat->Nat->Bool) (κ:SortKind) (l0:List Nat) (k:Nat) (ps:List (Nat×Nat×Nat)) (R:List Nat) (st:SortSt):Prop :=
 ∃ l1 g,st=SortSt.mk' κ (arK F (l1++R)) ps.toArray g none/\Mt lt ps 0 l1/\l1.length=k/\(l1++R).Perm l0
variable (O:Ord lt N) (nd:l0.Nodup) (bd:∀ x∈l0,x < N) (hc:Cmp M Ar E s F lt N κ)
include O nd bd hc
theorem zI {ps:List (Nat×Nat×Nat)} {R:List Nat} {i k:Nat} {st:SortSt} {Q:Bool->SortSt->Prop} (h:SoI F lt κ l0 k ps R st) (hi:i+1 < ps.length) (q:∀ ps' st,ps'.length+1=ps.length->SoI F lt κ l0 k ps' R st->Q true st):wpS M Ar E s (mergeAt' i) Q st:=by
 obtain ⟨l1,g,rfl,hM,hk,pm⟩:=h;obtain ⟨p1,r1,r2,p2,rfl,e1⟩:∃ p1 r1 r2 p2,ps=p1++r1 :: r2 :: p2/\p1.length=i:=by
  refine ⟨ps.take i,ps[i],ps[i+1],ps.drop (i+2),?_,by rw [JR];omega⟩;rw [<- Kg (by omega),<-Kg (by omega),List.take_append_drop]
 obtain ⟨u,v,rfl,m1,m2⟩:=hM.app;rw [Nat.zero_add] at m2;obtain ⟨a1,X,v1,rfl,xl,hX,sX,a2,Y,v2,rfl,yl,hY,sY,m3⟩:=m2;have ea:arK F (u++(X++(Y++v2))++R)=arK F (u++(X++Y)++(v2++R)):=by simp
 rw [ea];have pm':(u++(X++Y)++(v2++R)).Perm l0:=by simpa using pm
 have ndw:(X++Y).Nodup:=by
  have:=pm'.nodup_iff.mpr nd;rw [Jn] at this;exact (JL.mp (JL.mp this).2.1).1
 refine sv (pw:=r1.2.2) (pw2:=r2.2.2) O ndw (fun x hx=>bd x (pm'.mem_iff.mp (Jr _ (IS _ hx)))) hc ?_ ?_ hX hY sX sY fun Z g' sZ pZ=>?_
 ·rw [KQ,<-e1,IM (IY _),Lr,<-a1,xl];rfl
 ·rw [KQ,<-e1,IM (by omega),KG,yl,xl,<-a2];rfl
 ·have hl:Z.length=X.length+Y.length:=by rw [pZ.length_eq,IH]
  refine q (p1++(u.length,X.length+Y.length,r1.2.2) :: p2) _ ?_ ⟨u++(Z++v2),g',?_,?_,?_,?_⟩
  ·simp only [IH,Jf];omega
  ·have e2:(((p1++r1 :: r2 :: p2).toArray.setIfInBounds i (u.length,X.length+Y.length,r1.2.2)).eraseIdxIfInBounds (i+1))=(p1++(u.length,X.length+Y.length,r1.2.2) :: p2).toArray:=by
    apply Ll.mp;rw [Array.toList_eraseIdxIfInBounds,Array.toList_setIfInBounds,<-e1];simp [List.eraseIdx_append_of_length_le]
   rw [e2];simp
  ·refine m1.Fj ⟨by rw [Nat.zero_add],Z,v2,rfl,hl,fun e=>?_,sZ,?_⟩
   ·rw [e,Kp] at hl;have:=List.length_pos_iff.mpr hX;omega
   ·rw [Nat.zero_add,xl,yl,<-Nat.add_assoc];exact m3
  ·simp only [IH] at hk ⊢;omega
  ·refine List.Perm.trans ?_ pm';rw [show u++(Z++v2)++R=u++Z++(v2++R) by simp];exact List.Perm.append_right _ (KR _ pZ)
omit O nd bd hc
noncomputable def sr3 (size lo n:Nat):StateT SortSt Sem (ForInStep (Option Unit×Nat)):=do
 let st<-get
 match (pendingOf st).back? with
 | some (s1,n1,_)=>do
  let c<-forIn [0:size] ((none,()):Option Unit×Unit) fun _ _=>do
   let st<-get
   match (if (pendingOf st).size > 1 then (pendingOf st)[(pendingOf st).size - 2]? else none) with
   | some (_,_,older) =>
    if older<=power' size (2*s1+n1) (2*s1+n1+n1+n) size then pure (.done (none,()))
    else do
     let b<-mergeAt' ((pendingOf st).size - 2)
     if (!b)=true then pure (.done (some (),())) else pure (.yield (none,()))
   | _=>pure (.done (none,()))
  match c.1 with
  | some r=>pure (.done (some r,lo))
  | none=>do
   modify fun s=>setPending s ((pendingOf s).modify ((pendingOf s).size - 1) fun x=>(x.1,x.2.1,power' size (2*s1+n1) (2*s1+n1+n1+n) size))
   modify fun s=>setPending s ((pendingOf s).push (lo,n,0))
   pure (.yield (none,lo+n))
 | _=>do
  modify fun s=>setPending s ((pendingOf s).push (lo,n,0))
  pure (.yield (none,lo+n))
include O nd bd hc
theorem z9 {ps:List (Nat×Nat×Nat)} {S T:List Nat} {lo size:Nat} {st:SortSt} {Q:ForInStep (Option Unit×Nat)->SortSt->Prop} (h:SoI F lt κ l0 lo ps (S++T) st) (sS:S.Pairwise fun x y=>lt x y=true) (hS:1<=S.length)
  (q:∀ ps' st,SoI F lt κ l0 (lo+S.length) ps' T st->Q (.yield (none,lo+S.length)) st):wpS M Ar E s (sr3 size lo S.length) Q st:=by
 have push:∀ {ps st},SoI F lt κ l0 lo ps (S++T) st->SoI F lt κ l0 (lo+S.length) (ps++[(lo,S.length,0)]) T (setPending st ((pendingOf st).push (lo,S.length,0))):=by
  rintro ps _ ⟨l1,g,rfl,hM,hk,pm⟩;refine ⟨l1++S,g,?_,hM.Fj ⟨by rw [Nat.zero_add,hk],S,[],by rw [Jp],rfl,fun e=>by rw [e] at hS;exact absurd hS (by decide),sS,rfl⟩,by rw [IH,hk],by rw [Jn];exact pm⟩;show SortSt.mk' κ (arK F (l1++(S++T))) (ps.toArray.push _) g none=_;rw [List.push_toArray,Jn]
 unfold sr3;refine Jm (LV ?_);cases e:(pendingOf st).back? with
 | none =>
  dsimp only;exact Jm (La (Jh (q _ _ (push h))))
 | some r =>
  obtain ⟨s1,n1,p1⟩:=r;dsimp only;refine Jm (Kq (J5 (I:=fun _ (c:Option Unit×Unit) st=>c.1=none/\∃ ps,SoI F lt κ l0 lo ps (S++T) st) (Q:=fun (c:Option Unit×Unit) st=>c.1=none/\∃ ps,SoI F lt κ l0 lo ps (S++T) st) ?_ (fun _ _ z=>z) ⟨rfl,ps,h⟩) ?_)
  ·rintro i ⟨r,⟨⟩⟩ st _ _ ⟨e,ps,h⟩;refine Jm (LV ?_);have ep:(pendingOf st).size=ps.length:=by obtain ⟨l1,g,rfl,hM,hk,pm⟩:=h;exact IW
   split
   ·split
    ·exact Jh ⟨rfl,ps,h⟩
    ·rename_i fst fst_1 older hp hold;have h1:(pendingOf st).size > 1:=by
      by_cases c:(pendingOf st).size > 1
      ·exact c
      ·rw [IU c] at hp;cases hp
     refine Jm (zI O nd bd hc h (by omega) fun ps' st' _ h'=>?_);rw [IU (by decide)];exact Jh ⟨rfl,ps',h'⟩
   ·exact Jh ⟨rfl,ps,h⟩
  ·rintro ⟨r,⟨⟩⟩ st ⟨e,ps,h⟩;dsimp only at e ⊢;subst e;refine Jm (La (Jm (La (Jh (q _ _ (push (ps:=ps.modify (ps.length - 1) fun x=>(x.1,x.2.1,power' size (2*s1+n1) (2*s1+n1+n1+S.length) size)) ?_))))))
   ·obtain ⟨l1,g,rfl,hM,hk,pm⟩:=h;refine ⟨l1,g,?_,Mt.mod (f:=fun x=>(x.1,x.2.1,power' size (2*s1+n1) (2*s1+n1+n1+S.length) size)) (fun _=>⟨rfl,rfl⟩) hM,hk,pm⟩;show SortSt.mk' κ (arK F (l1++(S++T))) (ps.toArray.modify (ps.toArray.size - 1) _) g none=_;congr 1;rw [IW,List.modify_toArray]
theorem BH {p0:List Nat} {g:Nat} {Q:Unit->SortSt->Prop} (h0:p0.Perm l0) (h:∀ l g ps,l.Perm l0->l.Pairwise (fun x y=>lt x y=true)->Q () (SortSt.mk' κ (arK F l) ps g none)) :
  wpS M Ar E s sortRuns' Q (SortSt.mk' κ (arK F p0) #[] g none):=by
 have hl0:=h0.length_eq;rw [sortRuns'_eq];refine Jm (LV ?_);rw [show (arrOf (SortSt.mk' κ (arK F p0) #[] g none)).size=l0.length by rw [<- hl0];exact aI];dsimp only;generalize minRun' l0.length l0.length 0=mr;refine Jm (Kq (J5 (I:=fun i (c:Option Unit×Nat) st=>c.1=none/\i<=c.2/\∃ ps R,SoI F lt κ l0 c.2 ps R st) (Q:=fun (c:Option Unit×Nat) st=>c.1=none/\∃ ps,SoI F lt κ l0 l0.length ps [] st) ?_ ?_ ⟨rfl,IY _,[],p0,[],g,rfl,rfl,rfl,h0⟩) ?_)
 ·rintro i ⟨r,lo⟩ st _ hi ⟨e,h1,ps,R,h2⟩;dsimp only at e h1 h2 ⊢;subst e;by_cases c:lo>=l0.length
  ·rw [IV c];refine Jh ⟨rfl,ps,?_⟩;obtain ⟨l1,g,rfl,hM,hk,pm⟩:=h2;have:=pm.length_eq;rw [IH] at this;have e0:R=[]:=Jw (by omega);subst e0;exact ⟨l1,g,rfl,hM,by rw [Kp] at this;omega,pm⟩
  rw [IU c];obtain ⟨l1,g,rfl,hM,rfl,pm⟩:=h2;have hlen:=pm.length_eq;rw [IH] at hlen;have nd1:=pm.nodup_iff.mpr nd;refine Jm (w_count O hc (fun x hx=>bd x (pm.mem_iff.mp hx)) (JL.mp nd1).2.1 (by omega) (by omega) fun S T pS sS hS=>?_);dsimp only;have pm2:(l1++(S++T)).Perm l0:=(KR _ pS).trans pm;have hlen2:=pS.length_eq;rw [IH] at hlen2;have bc:∀ {α β:Type} {m m':StateT SortSt Sem α} {f f':α->StateT SortSt Sem β},m=m'->f=f'->(m>>=f)=(m'>>=f'):=by rintro _ _ _ _ _ _ rfl rfl;rfl
  have use:∀ {m m':StateT SortSt Sem (ForInStep (Option Unit×Nat))} {Q:ForInStep (Option Unit×Nat)->SortSt->Prop} {st:SortSt},m=m'->wpS M Ar E s m' Q st->wpS M Ar E s m Q st:=by rintro _ _ _ _ rfl z;exact z
  by_cases c2:S.length < mr
  ·rw [IV c2];refine Jm (wpS_lift (Ke ⟨rfl,?_⟩));refine Jm (Dv (R:=R) O hc (fun x hx=>bd x (pm2.mem_iff.mp hx)) (JL.mp (pm2.nodup_iff.mpr nd)).2.1 rfl hS (by omega) (by rw [IH];omega) sS fun S' T' pS' sS' hS'=>?_);rw [IU (by decide),<-hS'];refine use (m':=sr3 l0.length l1.length S'.length) ?_ (Kq (z9 O nd bd hc (S:=S') (T:=T') (size:=l0.length) ⟨l1,g,rfl,hM,rfl,(KR _ pS').trans pm2⟩ sS' (by omega) (Q:=fun r st=>∃ ps' n R,1<=n/\r=.yield (none,l1.length+n)/\SoI F lt κ l0 (l1.length+n) ps' R st) fun ps' st hs=>⟨ps',_,T',by omega,rfl,hs⟩) ?_)
   ·unfold sr3;refine KZ fun st=>?_;cases (pendingOf st).back? with
    | none=>rfl
    | some r =>
     obtain ⟨s1,n1,p1⟩:=r;dsimp only;refine bc ?_ ?_
     ·congr 1;try (funext _ c;refine KZ fun st=>?_;split <;> rfl)
     ·funext c;cases c.1 <;> rfl
   ·rintro _ st ⟨ps',n,R,hn,rfl,hs⟩;exact ⟨rfl,by dsimp only;omega,ps',R,hs⟩
  ·rw [IU c2];refine use (m':=sr3 l0.length l1.length S.length) ?_ (Kq (z9 O nd bd hc (S:=S) (T:=T) (size:=l0.length) ⟨l1,g,rfl,hM,rfl,pm2⟩ sS hS (Q:=fun r st=>∃ ps' n R,1<=n/\r=.yield (none,l1.length+n)/\SoI F lt κ l0 (l1.length+n) ps' R st) fun ps' st hs=>⟨ps',_,T,hS,rfl,hs⟩) ?_)
   ·unfold sr3;refine KZ fun st=>?_;cases (pendingOf st).back? with
    | none=>rfl
    | some r =>
     obtain ⟨s1,n1,p1⟩:=r;dsimp only;refine bc ?_ ?_
     ·congr 1;try (funext _ c;refine KZ fun st=>?_;split <;> rfl)
     ·funext c;cases c.1 <;> rfl
   ·rintro _ st ⟨ps',n,R,hn,rfl,hs⟩;exact ⟨rfl,by dsimp only;omega,ps',R,hs⟩
 ·rintro ⟨r,lo⟩ st ⟨e,h1,ps,R,l1,g,rfl,hM,hk,pm⟩;have:=pm.length_eq;rw [IH] at this;dsimp only at e h1 hk;have e0:R=[]:=Jw (by omega);subst e0;exact ⟨e,ps,l1,g,rfl,hM,by rw [Kp] at this;omega,pm⟩
 ·rintro ⟨r,lo⟩ st ⟨e,ps,hs⟩;dsimp only at e ⊢;subst e;have hps:ps.length<=l0.length:=by obtain ⟨l1,g,rfl,hM,hk,pm⟩:=hs;rw [<- hk];exact hM.len
  refine Jm (Kq (J5 (I:=fun i (c:Option Unit×Unit) st=>c.1=none/\∃ ps,ps.length<=l0.length - i/\SoI F lt κ l0 l0.length ps [] st) (Q:=fun (c:Option Unit×Unit) st=>c.1=none/\∃ ps,ps.length<=1/\SoI F lt κ l0 l0.length ps [] st) ?_ ?_ ⟨rfl,ps,hps,hs⟩) ?_)
  ·rintro i ⟨r,⟨⟩⟩ st _ hi ⟨e,ps,hp,hs⟩;refine Jm (LV ?_);have ep:(pendingOf st).size=ps.length:=by obtain ⟨l1,g,rfl,hM,hk,pm⟩:=hs;exact IW
   by_cases c:(pendingOf st).size<=1
   ·rw [IV c];exact Jh ⟨rfl,ps,by omega,hs⟩
   ·rw [IU c];refine Jm (zI O nd bd hc hs ?_ fun ps' st' hl h'=>?_)
    ·have:∀ c:Bool,(if c=true then (pendingOf st).size - 2 - 1 else (pendingOf st).size - 2)+1 < ps.length:=fun c=>by cases c <;> simp <;> omega
     exact this _
    ·rw [IU (by decide)];exact Jh ⟨rfl,ps',by omega,h'⟩
  ·rintro ⟨r,⟨⟩⟩ st ⟨e,ps,hp,hs⟩;exact ⟨e,ps,by omega,hs⟩
  ·rintro ⟨r,⟨⟩⟩ st ⟨e,ps,hp,hs⟩;dsimp only at e ⊢;subst e;obtain ⟨l1,g,rfl,hM,hk,pm⟩:=hs;rw [Jp] at pm ⊢;exact Jh (h l1 g _ pm (hM.Io hp))
end
end L2
end
section
namespace L2
open PySem PySem.Spec PyProof.Rows PySem.W
theorem uS {P:Program} {w:World} {A:Around} {E:Value->Shared->Prop} {s:Shared} {vs ks:List Value} {κ:SortKind} {lt:Nat->Nat->Bool} {Q:SortSt->Shared->Prop} (hl:ks.length=vs.length)
  (hc:∀ i j (C:Bool->Shared->Prop),i < vs.length->j < vs.length->C (lt i j) s->kas_ask P w A κ ks i j C s) (O:Ord lt vs.length)
  (h:∀ p st',p.size=vs.length->arrOf st'=p.map (kas_item (ks.toArray.zip vs.toArray))->failedOf st'=none->Pm vs.length p->Up lt p vs.length->Q st' s) :
  wpAny (model P w) A ((sortRuns').run (SortSt.mk' κ (ks.toArray.zip vs.toArray) #[] 7 none)) (fun r s'=>Q r.2 s') E s:=by
 have e:=kas_range (ks.toArray.zip vs.toArray);rw [show (ks.toArray.zip vs.toArray).size=vs.length by simp [hl]] at e;have est:SortSt.mk' κ (ks.toArray.zip vs.toArray) #[] 7 none=SortSt.mk' κ (arK (kas_item (ks.toArray.zip vs.toArray)) (List.range vs.length)) #[] 7 none:=by
  congr 1;rw [<- e];simp only [arK,e];rw [<- List.map_toArray,e]
 rw [est];have hcm:Cmp (model P w) A E s (kas_item (ks.toArray.zip vs.toArray)) lt vs.length κ:=by
  intro i j C st hk hi hj hC;rw [lt'_eq];refine Jm (LV ?_);rw [hk,kat_item hl,kat_item hl];refine Jm (wpS_lift (LM (JV (hc i j (fun b s'=>b=lt i j/\s'=s) hi hj ⟨rfl,rfl⟩) (fun b s' hb=>?_) fun _ _ z=>z.elim)));obtain ⟨rfl,rfl⟩:=hb;exact ⟨rfl,Jh hC⟩
 have:=BH (M:=model P w) (Ar:=A) (E:=E) (s:=s) (g:=7) (p0:=List.range vs.length) (Q:=fun _ st=>Q st s) O List.nodup_range (fun x hx=>List.mem_range.mp hx) hcm (Kd _) fun l g ps pl sl=>h l.toArray _ (by rw [IW,pl.length_eq,J9]) (by simp [arK]) rfl (LB.mpr pl) fun i hi=>?_
 ·exact JV this (fun r s' z=>by obtain ⟨rfl,z⟩:=z;exact z) fun _ _ z=>z
 ·have hll:l.length=vs.length:=by rw [pl.length_eq,J9]
  have:=Kw.mp sl i (i+1) (by omega) (by omega) (Kt _);unfold at_;rw [KY,KY,KQ,KQ,IG (by omega),IG (by omega)];exact this
end L2
end
section
namespace L2
open PySem PySem.Spec PyProof.Rows PySem.W
section
variable {P:Program} {w:World} {A:Around} {E:Value->Shared->Prop} {s:Shared} {a kS:Addr} {vs ks:List Value} {f:Value} {e1:Nat} {R:PySem.Fin->Shared->Prop}
theorem Be {n:Nat} {J:List Value->Shared->Prop} {body:Value->PUnit->Sem (ForInStep PUnit)}
  (hb:∀ x ks (s:Shared),ks.length < n->vs[ks.length]?=some x->J ks s->wpAny (model P w) A (body x ⟨⟩) (fun r s'=>r=.yield ⟨⟩/\∃ k,J (ks++[k]) s') E s):∀ (r ks:List Value) (s:Shared),ks.length+r.length=n->vs.drop ks.length=r->J ks s ->
   wpAny (model P w) A (forIn r PUnit.unit body) (fun _ s'=>∃ ks,ks.length=n/\J ks s') E s
 | [],ks,s,hl,hr,h=>by
  rw [List.forIn_nil];exact IJ ⟨ks,by simpa using hl,h⟩
 | x :: r,ks,s,hl,hr,h=>by
  rw [Jf] at hl;rw [List.forIn_cons];have hx:vs[ks.length]?=some x:=by
   have:(vs.drop ks.length)[0]?=some x:=by rw [hr];rfl
   rwa [List.getElem?_drop,Nat.add_zero] at this
  refine IF (JV (hb x ks s (by omega) hx h) (fun q s' hq=>?_) fun _ _ x=>x);obtain ⟨rfl,k,h2⟩:=hq;refine Be hb r (ks++[k]) s' (by rw [IH,KP];omega) ?_ h2;rw [IH,KP,<-List.drop_drop,hr];rfl
theorem Fu {J:List Value->Shared->Prop} (h64:vs.length < 4096)
  (step:∀ x ks (s:Shared),vs[ks.length]?=some x->ks.length < 4096->J ks s->wpAny (model P w) A (call f [x]) (fun k s'=>(∃ e,s'.heap.get? kS=some (seqObj "list" (List.toArray ks) e))/\J (ks++[k]) { s' with heap:=s'.heap.update kS (Obj.mapSeq (·.push k)) }) (fun _ _=>False) s)
  (hJ:∀ ks s,J ks s->∃ e,s.heap.get? kS=some (seqObj "list" (List.toArray ks) e))
  (fin:∀ ks (s:Shared),ks.length=vs.length->J ks s->wpAny (model P w) A (ksk_end a false vs.toArray e1 (.ref kS) (List.toArray ks)) R E s) (h:J [] s) :
  wpAny (model P w) A (ksk_rest a f false vs.toArray e1 (.ref kS)) R E s:=by
 unfold ksk_rest;refine IF (Ke ?_);rw [List.forIn_toArray];refine IF (JV (Be (n:=vs.length) (vs:=vs) (J:=J) (fun x ks s' hl hx hj=>?_) vs [] s (by simp) (by simp) h) (fun _ s' hd=>?_) fun _ _ x=>x)
 ·refine IF (LM (JV (step x ks s' hx (by omega) hj) (fun k s'' hk=>?_) fun _ _ hF=>hF.elim));obtain ⟨⟨e,g⟩,hj'⟩:=hk;try dsimp only
  refine IF (listUpdate_at g rfl ?_ (by rw [IW,J3];omega) (Jt (Nat.le_of_eq (Array.size_push ..)) (by rw [IW,J3];omega)));exact IJ ⟨rfl,k,hj'⟩
 ·obtain ⟨ks,hl,hj⟩:=hd;obtain ⟨e,g⟩:=hJ ks s' hj;try dsimp only
  refine IF (listItems_at g rfl ?_);exact fin ks s' hl hj
theorem AI {st:SortSt} {e:Nat} {out:List Value} (hout:(arrOf st).map (·.2)=List.toArray out) (hz:out.length < 4096) (hkz:ks.length < 4096) (hf:failedOf st=none) (hne:a≠kS)
  (gk:s.heap.get? kS=some (seqObj "list" (List.toArray ks) e)) (ga:s.heap.get? a=some (seqObj "list" #[] e1))
  (h:R (.done (.ret .none)) { s with heap:=(s.heap.update kS (Obj.mapSeq fun _=>(#[]:Array Value))).update a (Obj.mapSeq fun _=>List.toArray out) }):wpAny (model P w) A (ksk_tail a false e1 (.ref kS) st) R E s:=by
 have ga':(s.heap.update kS (Obj.mapSeq fun _=>(#[]:Array Value))).get? a=some (seqObj "list" #[] e1):=(J1 _ _ (Ne.symm hne)).trans ga;unfold ksk_tail;try dsimp only
 rw [hout];refine IF (listUpdate_at gk rfl ?_ (by rw [IW,J3];omega) (JZ _));refine IF (wpAny_letGo ?_);refine IF (seqEpoch_at ga' rfl ?_);refine IF (listUpdate_at ga' rfl ?_ (JZ _) (by show (List.toArray out).size<=_;rw [IW,J3];omega));rw [hf];simp only [bne_self_eq_false,Ld,K5];exact IJ h
theorem HM {e:Nat} {κ:SortKind} {lt:Nat->Nat->Bool} (hl:ks.length=vs.length) (h64:vs.length < 4096) (hne:a≠kS)
  (gk:s.heap.get? kS=some (seqObj "list" (List.toArray ks) e)) (ga:s.heap.get? a=some (seqObj "list" #[] e1))
  (hk:2<=vs.length->∀ Q:SortKind->Shared->Prop,Q κ s->wpAny (model P w) A (keyKind' (List.toArray ks)) Q (fun _ _=>False) s)
  (hc:∀ i j (C:Bool->Shared->Prop),i < vs.length->j < vs.length->C (lt i j) s->kas_ask P w A κ ks i j C s) (O:Ord lt vs.length)
  (h:∀ p,Pm vs.length p->Up lt p vs.length->R (.done (.ret .none)) { s with heap:=(s.heap.update kS (Obj.mapSeq fun _=>(#[]:Array Value))).update a (Obj.mapSeq fun _=>List.toArray (p.toList.map fun i=>vs.getD i Value.none)) }) :
  wpAny (model P w) A (ksk_end a false vs.toArray e1 (.ref kS) (List.toArray ks)) R E s:=by
 unfold ksk_end;dsimp only;rw [IU Jj,IU Jj];by_cases h2:vs.length < 2
 ·have hs:vs.toArray.size < 2:=by rw [IW];exact h2
  rw [IV hs,IV hs];refine IF (IJ ?_);show wpAny _ _ (pure (PUnit.unit,SortSt.mk' general' (ks.toArray.zip vs.toArray) #[] 7 none)>>=_) _ _ _;refine IF (IJ ?_);dsimp only;have er:(List.toArray (List.range vs.length)).map (kas_item (ks.toArray.zip vs.toArray))=ks.toArray.zip vs.toArray:=by
   have e:=kas_range (ks.toArray.zip vs.toArray)
   rwa [show (ks.toArray.zip vs.toArray).size=vs.length by simp [hl]] at e
  refine AI (st:=SortSt.mk' general' (ks.toArray.zip vs.toArray) #[] 7 none) (kat_snds hl (p:=(List.range vs.length).toArray) er.symm) (by simpa using h64) (by omega) rfl hne gk ga (h _ (Array.Perm.refl _) fun i hi=>by omega)
 ·have hs:¬vs.toArray.size < 2:=by rw [IW];exact h2
  rw [IU hs,IU hs];refine IF (JV (hk (by omega) (fun κ' s'=>κ'=κ/\s'=s) ⟨rfl,rfl⟩) (fun κ' s0 hk'=>?_) fun _ _ x=>x.elim);obtain ⟨rfl,rfl⟩:=hk'
  refine IF (JV (uS (Q:=fun st' s'=>∃ p:Array Nat,p.size=vs.length/\arrOf st'=p.map (kas_item (ks.toArray.zip vs.toArray))/\failedOf st'=none/\(Pm vs.length p/\Up lt p vs.length)/\s'=s0)
   hl hc O fun p st' a1 a2 a3 a4 a5=>⟨p,a1,a2,a3,⟨a4,a5⟩,rfl⟩) ?_ fun _ _ x=>x)
  rintro ⟨⟨⟩,st'⟩ s' ⟨p,hp,har,hf,⟨h1,h2'⟩,rfl⟩;dsimp only;exact AI (kat_snds hl har) (by rw [II,JJ,hp];exact h64) (by omega) hf hne gk ga (h p h1 h2')
theorem Cr {d g:Addr} {es:Array DictEntry} {ep:Nat} {Q:Value->Shared->Prop} (hh:A.handled=none) (lo:(d==sysModules)=false) (ok:OkD d es ep s.heap) (hz:es.size < 4096)
  (h:∀ vs D kS e1 h' tk,vs=es.toList.map (·.key)->s.heap.objs.size<=D->D < kS->(∀ b o,s.heap.get? b=some o->h'.get? b=some o)->h'.get? D=some (seqObj "list" #[] e1)->h'.get? kS=some (seqObj "list" #[] 0) ->
   ∀ R:PySem.Fin->Shared->Prop,(∀ s',Q (.ref D) s'->R (.done (.ret .none)) s')->wpAny (model P w) A.in1.in1 (ksk_rest D (.ref g) false vs.toArray e1 (.ref kS)) R (fun _ _=>False) { s with heap:=h',toks:=tk }) :
  wpAny (model P w) A (call (.builtin "sorted") [.ref d] [(Str.ofString "key", .ref g)]) Q E s:=by
 refine call_function_entry_kw kind_sorted plain_sorted entry_sorted (ksk_s1 _ _) ?_;unfold Builtin.«sorted»
 refine IF (m:=checkCount "sorted" 1 1 _) (IJ ?_);refine IF (E8 hh lo ok (by rw [J3];omega) fun vs h1 tk ev hsz hk=>?_);have hvl:vs.length < 4096:=by rw [ev,II,JJ];exact hz
 refine IF (wpAny_newList ?_ (by rw [J3];omega));have hoL:(h1.push (seqObj "list" vs.toArray 0)).get? h1.objs.size=some (seqObj "list" vs.toArray 0):=Jk _ rfl;refine IF (JX (wpAny_call_entry_kw slot_list_sort ⟨_,hoL,rfl⟩ entry_list_sort ?body (ksk_l1 _ _)))
 case body =>
  show wpAny (model P w) A.in1.in1 (Builtin.«list.sort» ⟨[.ref h1.objs.size],[(Str.ofString "key", .ref g)]⟩) _ _ _
  rw [ksk_t1];unfold ksk_tree;obtain ⟨e1,ho1⟩:∃ e1,((h1.push (seqObj "list" vs.toArray 0)).update h1.objs.size (Obj.mapSeq fun _=>(#[]:Array Value))).get? h1.objs.size=some (seqObj "list" #[] e1):=⟨_,get?_update_seq hoL fun _=>#[]⟩;refine IF (listItems_at hoL rfl ?_);refine IF (listUpdate_at hoL rfl ?_ (by rw [IW,J3];omega) (JZ _));refine IF (seqEpoch_at ho1 rfl ?_);refine IF (wpAny_newTuple ?_ (by show vs.length<=_;rw [J3];omega));refine IF (wpAny_newList ?_ (JZ _));refine JX ?_;have hks:(((h1.push (seqObj "list" vs.toArray 0)).update h1.objs.size (Obj.mapSeq fun _=>(#[]:Array Value))).push (seqObj "tuple" vs.toArray 0)).objs.size=h1.objs.size+2:=by
   rw [size_push',Heap.size_update,size_push']
  refine JV (h vs h1.objs.size (((h1.push (seqObj "list" vs.toArray 0)).update h1.objs.size (Obj.mapSeq fun _=>(#[]:Array Value))).push (seqObj "tuple" vs.toArray 0)).objs.size e1
   ((((h1.push (seqObj "list" vs.toArray 0)).update h1.objs.size (Obj.mapSeq fun _=>(#[]:Array Value))).push (seqObj "tuple" vs.toArray 0)).push (seqObj "list" #[] 0)) tk ev (Ls hsz) (by rw [hks];exact KW (Kt _)) (fun b o e=>?_)
   (IQ _ (IQ _ ho1)) (Jk _ rfl) _ fun s' hq=>?_) (fun _ _ z=>z) fun _ _ z=>z.elim
  ·have hb:b≠h1.objs.size:=Js (Jc (hk b o e));exact IQ _ (IQ _ ((J1 _ _ (Ne.symm hb)).trans (IQ _ (hk b o e))))
  ·exact ⟨_,rfl,IJ ⟨_,rfl,hq⟩⟩
end
end L2
end
section
namespace L2
open PySem PySem.Spec PyProof.Rows PySem.W
noncomputable abbrev Ky:=Int×Int×Str
noncomputable def ltK (x y:Ky):Bool:=if x.1=y.1 then (if x.2.1=y.2.1 then decide (x.2.2.cps.toList < y.2.2.cps.toList) else decide (x.2.1 < y.2.1)) else decide (x.1 < y.1)
section
variable {P:Program} {w:World} {A:Around} {E:Value->Shared->Prop} {s:Shared}
theorem Bz {x y:Addr} {a b:Ky} {t1 t2 t3 u1 u2 u3:Tok} {C:Bool->Shared->Prop} (hx:IsTup s.heap x #[.int a.1 t1,.int a.2.1 t2,.str a.2.2 t3]) (hy:IsTup s.heap y #[.int b.1 u1,.int b.2.1 u2,.str b.2.2 u3]) (h:C (ltK a b) s) :
  wpAny (model P w) A (keyLt' (tuples' true) (.ref x) (.ref y)) C E s:=by
 obtain ⟨ox,gx,cx,n,dx⟩:=hx;obtain ⟨oy,gy,cy,k,dy⟩:=hy;unfold ltK at h;refine kat_lt gx dx gy dy ?_;show KatLex P w A true _ C [(.int a.1 t1,.int b.1 u1),(.int a.2.1 t2,.int b.2.1 u2),(.str a.2.2 t3,.str b.2.2 u3)] 0 s;refine kat_cons (wpAny_eqBool_int (kat_go (fun e=>kat_yes ?_) fun e=>kat_no (oneLt_int ?_)))
 ·rw [IV (JD.mp e)] at h;refine kat_cons (wpAny_eqBool_int (kat_go (fun e=>kat_yes ?_) fun e=>kat_no (kat_one _ _ (lt_int ?_))))
  ·rw [IV (JD.mp e)] at h;refine kat_cons (eqBool_str (kat_go (fun e=>kat_yes ?_) fun e=>kat_no (kat_one _ _ (lt_str ?_))))
   ·have e:=JD.mp e;rw [e,Jy (Ly _)] at h;exact kat_nil h
   ·exact h
  ·rw [IU (fun z=>by rw [z,JN] at e;cases e)] at h;exact h
 ·rw [IU (fun z=>by rw [z,JN] at e;cases e)] at h;exact h
end
theorem iY (x:Ky):ltK x x=false:=by
 unfold ltK;rw [IV rfl,IV rfl];exact Jy (Ly _)
theorem o8 {x y z:Ky} (h1:ltK x y=true) (h2:ltK y z=true):ltK x z=true:=by
 unfold ltK at *;split at h1 <;> split at h2
 ·rename_i a b;rw [IV (a.trans b)];split at h1 <;> split at h2
  ·rename_i c d;rw [IV (c.trans d)];exact Jq (List.lt_trans (J0 h1) (J0 h2))
  ·rename_i c d;rw [IU (by rw [c];exact d),c];exact h2
  ·rename_i c d;rw [IU (by rw [<- d];exact c),<-d];exact h1
  ·have:=J0 h1;have:=J0 h2;rw [IU (by omega)];exact Jq (by omega)
 ·rename_i a b;rw [IU (by rw [a];exact b),a];exact h2
 ·rename_i a b;rw [IU (by rw [<- b];exact a),<-b];exact h1
 ·have:=J0 h1;have:=J0 h2;rw [IU (by omega)];exact Jq (by omega)
theorem lC {x y:Ky} (hn:x≠y) (h:ltK x y=false):ltK y x=true:=by
 obtain ⟨x1,x2,x3⟩:=x;obtain ⟨y1,y2,y3⟩:=y;unfold ltK at *;dsimp only at *;split at h
 ·rename_i a;rw [IV a.symm];split at h
  ·rename_i b;rw [IV b.symm];refine Jq ?_;have h:=Lb h
   have:y3.cps.toList≠x3.cps.toList:=fun z=>hn (by
    have:y3=x3:=by cases x3;cases y3;simpa using Ll.mp z
    rw [a,b,this])
   exact Kx fun n=>this (List.le_antisymm (List.not_lt.mp h) (List.not_lt.mp n))
  ·rename_i b;have h:=Lb h;rw [IU (fun z=>b z.symm)];exact Jq (by omega)
 ·rename_i a;have h:=Lb h;rw [IU (fun z=>a z.symm)];exact Jq (by omega)
end L2
end
section
namespace L2
open PySem PySem.Spec PyProof.Rows PySem.W
section
variable {X:Cx} {pins:List (Addr×Obj)} {σ:List (Option V)} {H:Hp} {s:Shared} {h':Heap}
theorem Inv.qW {a:Addr} {o:Obj} (I:Inv X ((a,o) :: pins) σ H s):∀ x c,X.env.cells.lookup x=some c->c≠a:=fun x c e z=>by
 obtain ⟨g,_,_,_,n⟩:=I.pin (a,o) (IS _ IP);obtain ⟨v,oc,h1,h2⟩:=I.cell x c e;subst z;rw [g] at h1;cases h1;first | exact n _ h2 | exact n _ h2.1 | exact n _ h2.2
theorem Inv.uv {p:Addr×Obj} (I:Inv X (p :: pins) σ H s):Inv X pins σ H s:=I.cB fun q hq=>I.pin q (IS _ (IZ _ hq))
theorem Inv.Ey {a:Addr} {o o':Obj} (I:Inv X ((a,o) :: pins) σ H s) (ha:X.s₀.heap.objs.size<=a) (hp:∀ p∈X.pn++pins,p.1≠a) (hs:∀ b u,b≠a->s.heap.get? b=some u->h'.get? b=some u) (g':h'.get? a=some o') (hc:∀ v,o'.data≠.cell v) :
  Inv X ((a,o') :: pins) σ H { s with heap:=h' }:=by
 obtain ⟨g,n,L,f,_⟩:=I.pin (a,o) (IS _ IP);have I2:Inv X pins σ H { s with heap:=h' }:=I.uv.turned (t':=s.toks) hs n L (.inr ha) I.qW hp;refine I2.cB fun p hp=>?_;rcases Jb.mp hp with rfl | hp
 ·exact ⟨g',n,L,f,hc⟩
 ·exact I2.pin p (IS _ hp)
theorem Inv.Ik {D k:Addr} {o:HO} (I:Inv X pins σ H s) (hD:X.s₀.heap.objs.size<=D) (hk:X.s₀.heap.objs.size<=k) (nD:H D=none) (nk:H k=none) (LD:D≠X.env.locals) (Lk:k≠X.env.locals)
  (cD:∀ x c,X.env.cells.lookup x=some c->c≠D) (ck:∀ x c,X.env.cells.lookup x=some c->c≠k) (pD:∀ p∈X.pn++pins,p.1≠D) (pk:∀ p∈X.pn++pins,p.1≠k)
  (hs:∀ b u,b≠D->b≠k->s.heap.get? b=some u->h'.get? b=some u) (new:aW X.prog X.w (upd H D o) h' D o):Inv X pins σ (upd H D o) { s with heap:=h' }:=by
 have nd:∀ b u,H b=some u->b≠D:=fun b u e z=>by rw [z,nD] at e;cases e
 have nk':∀ b u,H b=some u->b≠k:=fun b u e z=>by rw [z,nk] at e;cases e
 have hc:∀ b,b ∉ [D,k]->b≠D/\b≠k:=fun b hb=>⟨fun z=>hb (by simp [z]),fun z=>hb (by simp [z])⟩;refine I.step (t':=s.toks) (g':=s.gens) (d':=s.drawn) (ch:=[D,k]) (fun b hb=>?_) (fun b o _ _ hb e _=>hs b o (hc b hb).1 (hc b hb).2 e) (fun b o _ _ hb e _=>⟨o.slots,hs b o (hc b hb).1 (hc b hb).2 e⟩) (fun b o hb _ n=>by rw [ae (hc b hb).1];exact n)
  (fun b o hb e=>⟨o,hs b o (hc b hb).1 (hc b hb).2 e⟩) (fun b xs e=>by rw [ae (nd b _ e)];exact e) (fun b o u e=>by rw [ae (nd b _ e)];exact e) (fun b ps e=>⟨#[],by rw [ae (nd b _ e),e];simp⟩) (fun m hm=>?_) (fun b u e=>?_) I.bare
 ·rcases Jb.mp hb with rfl | hb
  ·exact ⟨.inr hD,LD,cD,pD⟩
  ·rw [Ja.mp hb];exact ⟨.inr hk,Lk,ck,pk⟩
 ·obtain ⟨o,es,ep,ho,r⟩:=hm;exact ⟨o,es,ep,hs _ o (Ne.symm LD) (Ne.symm Lk) ho,r⟩
 ·by_cases z:b=D
  ·subst z;rw [ag] at e;cases e;exact new
  ·rw [ae z] at e;refine (I.hok b u e).jQ (fun c v hc q=>?_) (fun c q=>by rw [ae (nd c _ q)];exact q) fun c xs q=>by rw [ae (nd c _ q)];exact q
   rcases hc with rfl | hc
   ·exact hs _ _ z (nk' _ _ e) q
   ·exact hs _ _ (nd c _ hc) (nk' c _ hc) q
end
end L2
end
section
namespace L2
open PySem PySem.Spec PyProof.Rows PySem.W
noncomputable def KyT (K:Fg) (H:Hp) (u:V) (k:Ky):Prop:=∃ t,u=.ref t/\SqT K H t [.int k.1,.int k.2.1,.str k.2.2]
theorem KyT.same {K:Fg} {H H':Hp} {u:V} {k:Ky} (h:KyT K H u k) (e:aw H H'):KyT K H' u k:=by
 obtain ⟨t,rfl,h⟩:=h;refine ⟨t,rfl,?_⟩;rcases h with (h | ⟨o,h⟩) | h
 ·exact .inl (.inl (e _ _ h))
 ·exact .inl (.inr ⟨o,e _ _ h⟩)
 ·exact .inr h
noncomputable def valAt (xs:List (PyData×V×V)) (i:Nat):V:=((xs[i]?).map (·.2.1)).getD .non
noncomputable abbrev Cx.in2 (X:Cx):Cx:={ X with A:=X.A.in1.in1,xe:=fun _ _=>False }
section
variable {X:Cx} {pins:List (Addr×Obj)} {σ:List (Option V)} {H:Hp} {s:Shared}
theorem Inv.in2 (I:Inv X pins σ H s):Inv X.in2 pins σ H s :=
 ⟨⟨I.ok.mod,I.ok.kind,I.ok.glob,I.ok.blt,I.ok.above,I.ok.inj,I.ok.has,I.ok.cab,I.ok.hd,I.ok.frames,I.ok.stk,I.ok.exf,I.ok.bs,I.ok.bsz,I.ok.yx,I.ok.zh,I.ok.nY,I.ok.frf⟩,I.os,I.bare,I.base,I.loc,I.cell,I.free,I.d4,I.pin,I.hok,I.len⟩
theorem Inv.Hx (I:Inv X.in2 pins σ H s):Inv X pins σ H s :=
 ⟨⟨I.ok.mod,I.ok.kind,I.ok.glob,I.ok.blt,I.ok.above,I.ok.inj,I.ok.has,I.ok.cab,I.ok.hd,I.ok.frames,I.ok.stk,I.ok.exf,I.ok.bs,I.ok.bsz,I.ok.yx,I.ok.zh,I.ok.nY,I.ok.frf⟩,I.os,I.bare,I.base,I.loc,I.cell,I.free,I.d4,I.pin,I.hok,I.len⟩
noncomputable def KyH (h:Heap) (u:Value) (k:Ky):Prop:=∃ t t1 t2 t3,u=.ref t/\IsTup h t #[.int k.1 t1,.int k.2.1 t2,.str k.2.2 t3]
theorem Inv.key (I:Inv X pins σ H s) {v:V} {u:Value} {k:Ky} (r:RelV v u) (h:KyT X.K H v k):KyH s.heap u k:=by
 obtain ⟨t,rfl,h⟩:=h;obtain ⟨its,r2,h2,_⟩:=I.tuple h;cases r2 with
 | cons a r2 =>
  cases r2 with
  | cons b r2 =>
   cases r2 with
   | cons c r2 =>
    cases r2;obtain ⟨t1,rfl⟩:=a;obtain ⟨t2,rfl⟩:=b;obtain ⟨t3,rfl⟩:=c;exact ⟨t,t1,t2,t3,r,h2⟩
theorem By {h:Heap}:∀ {us:List Value},(∀ u∈us,∃ k,KyH h u k)->∃ fs,KatTups h us fs/\fs.length=us.length/\∀ v∈fs,∃ i t,v=.int i t
 | [],_=>⟨[],trivial,rfl,fun _ z=>nomatch z⟩
 | u :: us,hu=>by
  obtain ⟨k,t,t1,t2,t3,rfl,o,g,c,n,d⟩:=hu u IP;obtain ⟨fs,h1,h2,h3⟩:=By fun v hv=>hu v (IZ _ hv);refine ⟨.int k.1 t1 :: fs,KatTups.cons g c d rfl h1,by rw [Jf,h2,Jf],fun v hv=>?_⟩;rcases Jb.mp hv with rfl | hv
  ·exact ⟨_,_,rfl⟩
  ·exact h3 v hv
end
end L2
end
section
namespace L2
open PySem PySem.Spec PyProof.Rows PySem.W
section
variable {X:Cx} {k:Nat} {g:Addr} {fd:FuncData} {ps:List Str} {sp:Sp} {f:Str} {p pf pos kpos:Pos} {e:Expr} {te:TE}
end
end L2
end
section
namespace L2
open PySem PySem.Spec PyProof.Rows
noncomputable def GW:PyData->Option Ky | .tuple [.int i,.int j,.str x]=>some (i,j,x) | _=>none
theorem DmP.get {K:Fg} {F:Addr->Prop} {H:Hp}:∀ {kvs:List (PyData×PyData)} {xs:List (PyData×V×V)} {i:Nat} {x:PyData×V×V},DmP K F H kvs xs->xs[i]?=some x->(kvs.map (·.1))[i]?=some x.1/\Dm K F H x.1 x.2.1
 | [],xs,i,x,h,e=>by rw [show xs=[] from h] at e;simp at e
 | (k,d) :: kvs,xs,i,x,h,e=>by
  obtain ⟨j,v,r,rfl,h1,h2,h3,h4⟩:=h;cases i with
  | zero=>simp at e;subst e;exact ⟨rfl,h2⟩
  | succ i=>have:=DmP.get h4 (show r[i]?=some x by simpa using e);exact ⟨by simpa using this.1,this.2⟩
theorem DmP.kE {K:Fg} {F:Addr->Prop} {H:Hp}:∀ {kvs:List (PyData×PyData)} {xs:List (PyData×V×V)},DmP K F H kvs xs->xs.length=kvs.length
 | [],xs,h=>by rw [show xs=[] from h];rfl
 | (k,d) :: kvs,xs,h=>by
  obtain ⟨j,v,r,rfl,h1,h2,h3,h4⟩:=h;rw [Jf,DmP.kE h4,Jf]
section
variable {X:Cx} {k:Nat} {g:Addr} {fd:FuncData} {ps:List Str} {fn:Fn} {f:Str} {p pf pos kpos:Pos} {e:Expr} {te:TE}
end
end L2
end
section
namespace L2
open PySem PySem.Spec PyProof.Rows
noncomputable def IE:PyData->List PyData->Option PR
 | .str z,[.str y]=>match Builtin.Str.occurrences z y 0 z.length 1 with | i :: _=>some (.dat (.int i)) | []=>none
 | _,_=>none
inductive Lxy:List Value->List Value->Bool->Prop
 | nil:Lxy [] [] false
 | ii (a b:Int) (t u:Tok) {r q:List Value} {z:Bool} (h:Lxy r q z):Lxy (.int a t :: r) (.int b u :: q) (if a=b then z else decide (a < b))
 | ss (a b:Str) (t u:Tok) {r q:List Value} {z:Bool} (h:Lxy r q z):Lxy (.str a t :: r) (.str b u :: q) (if a=b then z else decide (a.cps.toList < b.cps.toList))
theorem Lxy.len:∀ {xs ys:List Value} {z:Bool},Lxy xs ys z->xs.length=ys.length
 | _,_,_,.nil=>rfl
 | _,_,_,.ii _ _ _ _ h=>by rw [Jf,h.len,Jf]
 | _,_,_,.ss _ _ _ _ h=>by rw [Jf,h.len,Jf]
theorem tF {x y:Value} {xs ys:List Value} {z:Bool} (h:Lxy (x :: xs) (y :: ys) z) (A:Around) (s:Shared):∃ e z',SeqAt.EqAt A s x y e/\Lxy xs ys z'/\(e=true->z=z')/\(e=false->∀ (prog:Program) (w:World) (E:Value->Shared->Prop) (Q:Value->Shared->Prop),Q (.bool z) s->wpAny (model prog w) A (richCompare .Lt x y) Q E s):=by
 cases h with
 | ii a b t u h =>
  refine ⟨(a==b),_,SeqAt.EqAt.int_int a t b u,h,fun e=>by rw [IV (JD.mp e)],fun e prog w E Q q=>?_⟩;rw [IU (fun z=>by rw [z,JN] at e;cases e)] at q;exact (PyProof.Rows.lt_int q:wpAny (model prog w) A (compareOp .Lt (.int a t) (.int b u)) Q E s)
 | ss a b t u h =>
  refine ⟨(a==b),_,SeqAt.EqAt.str_str a t b u,h,fun e=>by rw [IV (JD.mp e)],fun e prog w E Q q=>?_⟩;rw [IU (fun z=>by rw [z,JN] at e;cases e)] at q;exact (PyProof.Rows.lt_str q:wpAny (model prog w) A (compareOp .Lt (.str a t) (.str b u)) Q E s)
section
open PySem.SeqAt
open PySem.AutoSeq1 (wpAny_loadPart')
open PySem.MeetsSeq PySem.MeetsSeq2 PySem.MeetsSeq3
theorem qg (l b:Addr) (items items2:Array Value) (n n2:Nat) (dd dd2:Option Addr) (sl sl2:Array (Option Value)) (z:Bool) (hi:Lxy items.toList items2.toList z) :
  Meets (Builtin.«tuple.__lt__» ⟨[.ref l,.ref b],[]⟩)
   (fun _ R s=>s.heap.get? l=some { cls:=.type "tuple", dict:=dd,data:=.seq items n,slots:=sl }/\s.heap.get? b=some { cls:=.type "tuple", dict:=dd2,data:=.seq items2 n2,slots:=sl2 } /\
    R (.ok (.ret (.bool z))) s) :=
 .of_wp fun prog w A R s h=>by
  obtain ⟨hp,g,d,tk,os⟩:=s;obtain ⟨hl,hb,h⟩:=h;have f2:=AutoSeq1.sub_tuple_tuple;have zl:items.size=items2.size:=by simpa using hi.len
  wp_walk using wpAny_loadPart' hl,wpAny_loadPart' hb,Li _ (fun rest b s'=>b.1=none/\s'=⟨hp,g,d,tk,os⟩/\∃ (vs ws:List Value) (z':Bool),rest=vs.zip ws/\Lxy vs ws z'/\R (.ok (.ret (.bool z'))) ⟨hp,g,d,tk,os⟩) _
  case turn =>
   rintro ⟨y,x⟩ rest b s' ⟨hb',rfl,vs,ws,z',hz,hv,hR⟩;cases vs with
   | nil=>rw [List.zip_nil_left] at hz;cases hz
   | cons v vs =>
    cases ws with
    | nil=>rw [List.zip_nil_right] at hz;cases hz
    | cons w1 ws =>
     rw [Lw] at hz;injection hz with hyx hrest;injection hyx with hy hx;subst hy hx;obtain ⟨e,z2,he,h2,h3,h4⟩:=tF hv A.in1 ⟨hp,g,d,tk,os⟩;refine IF (he prog w _ _ ?_);cases e with
     | true =>
      rw [h3 rfl] at hR
      wp_walk
      exact ⟨rfl,rfl,_,_,_,hrest,h2,hR⟩
     | false =>
      have hri:=h4 rfl prog w
      wp_walk using hri
      exact ⟨_,rfl,by simpa using hR⟩
  case fin =>
   rintro ⟨b1,b2⟩ s' ⟨hb',rfl,vs,ws,z',hz,hv,hR⟩;simp only at hb';subst hb';have hv:z'=decide (items.size < items2.size):=by
    cases hv with
    | nil=>exact (Jy (by omega)).symm
    | ii a b t u h=>rw [Lw] at hz;cases hz
    | ss a b t u h=>rw [Lw] at hz;cases hz
   rw [hv] at hR
   wp_walk
   exact ⟨_,rfl,by simpa [Builtin.Tuple.tupleCompareSizes] using hR⟩
  case h =>
   exact ⟨rfl,rfl,items.toList,items2.toList,z,rfl,hi,h⟩
end
theorem qK {prog:Program} {w:World} {A:Around} {E:Value->Shared->Prop} {s:Shared} {l b:Addr} {items items2:Array Value} {z:Bool} {Q:Value->Shared->Prop} (hl:IsTup s.heap l items) (hb:IsTup s.heap b items2) (hi:Lxy items.toList items2.toList z)
  (hu:A.units < cLine) (h:Q (.bool z) s):wpAny (model prog w) A (compareOp .Lt (.ref l) (.ref b)) Q E s:=by
 obtain ⟨⟨cls,dd,data,sl⟩,ho,hc,n,hd⟩:=id hl;obtain ⟨⟨cls2,dd2,data2,sl2⟩,ho2,hc2,n2,hd2⟩:=id hb;simp only at hc hd hc2 hd2;subst hc hd hc2 hd2;exact richCompare_meets_room (op:=.Lt) ⟨_,ho,rfl⟩ ⟨_,ho2,rfl⟩ PySem.F.slot_tuple_lt PySem.F.entry_tuple_lt (PySem.F.args_tuple_lt_2 _ _) (qg l b items items2 n n2 dd dd2 sl sl2 z hi)
  ⟨ho,ho2,show Value.bool z≠Value.notImplemented/\Q (.bool z) s from ⟨(fun x=>nomatch x),h⟩⟩ hu
inductive LxV:List V->List V->Bool->Prop
 | nil:LxV [] [] false
 | ii (a b:Int) {r q:List V} {z:Bool} (h:LxV r q z):LxV (.int a :: r) (.int b :: q) (if a=b then z else decide (a < b))
 | ss (a b:Str) {r q:List V} {z:Bool} (h:LxV r q z):LxV (.str a :: r) (.str b :: q) (if a=b then z else decide (a.cps.toList < b.cps.toList))
theorem LxV.vals:∀ {xs ys:List V} {z:Bool} {us vs:List Value},LxV xs ys z->Vals xs us->Vals ys vs->Lxy us vs z
 | _,_,_,_,_,.nil,h1,h2=>by cases h1;cases h2;exact .nil
 | _,_,_,_,_,.ii a b h,h1,h2=>by
  cases h1 with
  | cons x r =>
   cases h2 with
   | cons y q =>
    obtain ⟨t,rfl⟩:=x;obtain ⟨u,rfl⟩:=y;exact .ii a b t u (h.vals r q)
 | _,_,_,_,_,.ss a b h,h1,h2=>by
  cases h1 with
  | cons x r =>
   cases h2 with
   | cons y q =>
    obtain ⟨t,rfl⟩:=x;obtain ⟨u,rfl⟩:=y;exact .ss a b t u (h.vals r q)
noncomputable def DV (K:Fg):R2:=fun x y H Q=>∃ a b xs ys z,x=.ref a/\y=.ref b/\SqT K H a xs/\SqT K H b ys/\LxV xs ys z/\Q (.bl z) H
theorem z8 {X:Cx} (hu:X.A.units < cLine):OpR X (compareOp .Lt) (DV X.K):=by
 intro pins s σ H x y v u Q I rx ry h;obtain ⟨a,b,xs,ys,z,rfl,rfl,ha,hb,hz,q⟩:=h;cases (show v=Value.ref a from rx);cases (show u=Value.ref b from ry);obtain ⟨its,r,p,_⟩:=I.tuple ha;obtain ⟨its2,r2,p2,_⟩:=I.tuple hb;exact qK p p2 (by simpa using hz.vals r r2) hu ⟨.bl z,H,I,rfl,q⟩
noncomputable def zf:List PyData->List PyData->Option Bool
 | [],[]=>some false
 | .int a :: r,.int b :: q=>(zf r q).map fun z=>if a=b then z else decide (a < b)
 | .str a :: r,.str b :: q=>(zf r q).map fun z=>if a=b then z else decide (a.cps.toList < b.cps.toList)
 | _,_=>none
theorem zo {K:Fg} {F:Addr->Prop} {H:Hp}:∀ {ds es:List PyData} {xs ys:List V} {z:Bool},zf ds es=some z->DmL K F H ds xs->DmL K F H es ys->LxV xs ys z
 | ds,es,xs,ys,z,h,h1,h2=>by
  induction ds generalizing es xs ys z with
  | nil =>
   cases es with
   | nil=>cases h;rw [show xs=[] from h1,show ys=[] from h2];exact .nil
   | cons e es=>simp [zf] at h
  | cons d ds ih =>
   unfold zf at h;split at h
   ·rename_i h0;cases h0
   ·rename_i a r b q e1;obtain ⟨z',hz,rfl⟩:=Jd.mp h;cases e1;obtain ⟨v,rr,rfl,hv,h1⟩:=h1;obtain ⟨w,qq,rfl,hw,h2⟩:=h2;cases (show v=.int a from hv);cases (show w=.int b from hw);exact .ii a b (ih _ _ _ _ hz h1 h2)
   ·rename_i a r b q e1;obtain ⟨z',hz,rfl⟩:=Jd.mp h;cases e1;obtain ⟨v,rr,rfl,hv,h1⟩:=h1;obtain ⟨w,qq,rfl,hw,h2⟩:=h2;cases (show v=.str a from hv.1);cases (show w=.str b from hw.1);exact .ss a b (ih _ _ _ _ hz h1 h2)
   ·cases h
noncomputable def FR:PyData->PyData->Option PR
 | .tuple ds,.tuple es=>(zf ds es).map fun z=>.dat (.bool z)
 | _,_=>none
noncomputable def Ha:Prm:=Prm.two DV FR fun K F H x y u v pr Q hf hx hy hd q=>by
 unfold FR at hf;split at hf
 ·obtain ⟨z,hz,rfl⟩:=Jd.mp hf;obtain ⟨a,xs,rfl,sa,_,da⟩:=hx;obtain ⟨b,ys,rfl,sb,_,db⟩:=hy;exact ⟨a,b,xs,ys,z,rfl,rfl,sa,sb,zo hz da db,q _ H (aw.rf H) rfl⟩
 ·cases hf
theorem yw {X:Cx} (hu:X.A.units < cLine):OpR X (compareOp .Lt) (fun x y=>Ha.r X.K [x,y]):=z8 hu
end L2
end
section
namespace L2
open PySem PySem.Spec PyProof.Rows
theorem eIZ {X:Cx} {elts:List Expr} {c:Nat} {pt p pos:Pos} {ea eb:Expr} {t:TA} (hg:Gl X "zip") (hm:X.mg "zip" = none) (hv:bootBuiltins "zip" = some (.type "zip")) (ha:JA X [ea,eb] t) (h1:PySem.W.isStarred ea=false) (h2:PySem.W.isStarred eb=false) :
  JI X (.Tuple elts c pt) (.Call (.Name "zip" p) [ea,eb] [] pos) (FX X.K t):=⟨AN hg hm hv ha.h (aD h1) (by rw [aD h2];rfl)⟩
end L2
end
section
namespace L2
open PySem PySem.Spec PyProof.Rows
noncomputable def HL (avs:List AV) (e:En) (QI:List PyData->Option Nat->En->Prop):Prop:=∃ x y xs ys,avs=[x,y]/\roL e x=some xs/\roL e y=some ys/\QI ((xs.zip ys).map fun p=>.tuple [p.1,p.2]) none e
theorem HQ {gd:List PyData} {as:XA} {env:En} {QI:List PyData->Option Nat->En->Prop} (h:WA gd as env fun avs e=>HL avs e QI):WI gd (.zip as) env QI:=by
 obtain ⟨avs,e',h1,x,y,xs,ys,rfl,h3,h4,h2⟩:=h;exact ⟨_,_,_,by simp only [dI,h1,h3,h4],h2⟩
end L2
end
section
namespace L2
open PySem PySem.Spec PyProof.Rows PySem.W
structure KS where
 κ:Type
 dft:κ
 dec:DecidableEq κ
 lt:κ->κ->Bool
 irr:∀ x,lt x x=false
 tr:∀ {x y z},lt x y=true->lt y z=true->lt x z=true
 tot:∀ {x y},x≠y->lt x y=false->lt y x=true
 T:Fg->Hp->V->κ->Prop
 same:∀ {K H H' u k},T K H u k->aw H H'->T K H' u k
 Hh:Heap->Value->κ->Prop
 key:∀ {X:Cx} {pins:List (Addr×Obj)} {σ:List (Option V)} {H:Hp} {s:Shared} {v:V} {u:Value} {k:κ},Inv X pins σ H s->RelV v u->T X.K H v k->Hh s.heap u k
 ask:∀ {P:Program} {w:World} {A:Around} {E:Value->Shared->Prop} {s:Shared} {u v:Value} {a b:κ} {C:Bool->Shared->Prop},A.units+64 < cLine->Hh s.heap u a->Hh s.heap v b->C (lt a b) s->wpAny (model P w) A (keyLt' (tuples' true) u v) C E s
 kd:∀ {P:Program} {w:World} {A:Around} {E:Value->Shared->Prop} {s:Shared} {us:List Value} {Q:SortKind->Shared->Prop},(∀ u∈us,∃ k,Hh s.heap u k)->0 < us.length->Q (tuples' true) s->wpAny (model P w) A (keyKind' us.toArray) Q E s
 of:PyData->Option κ
 ofT:∀ {K:Fg} {F:Addr->Prop} {H:Hp} {d:PyData} {u:V} {k:κ},of d=some k->Dm K F H d u->T K H u k
noncomputable def Co (S:KS) (ks:List S.κ) (i j:Nat):Bool:=S.lt (ks.getD i S.dft) (ks.getD j S.dft)
theorem Gy (S:KS) {ks:List S.κ} (h:ks.Nodup):Ord (Co S ks) ks.length where
 irr:=fun i=>S.irr _
 tr:=fun i j k=>S.tr
 tot:=fun i j hi hj hn e=>S.tot (fun z=>by
  rw [JH,JH,IG hi,IG hj] at z
  exact hn ((List.getElem?_inj hi h).mp (by rw [IG hi,IG hj];exact congrArg some z))) e
noncomputable def qf (S:KS) (K:Fg) (sp:Sp):List V->Hp->VK->Prop:=fun us H Q=>∃ (d:Addr) (ep:Nat) (xs:List (PyData×V×V)) (ks:List S.κ),us=[.ref d]/\H d=some (.dD ep xs)/\xs.length < 4096/\ks.length=xs.length/\ks.Nodup /\
 (∀ (i:Nat) (x:PyData×V×V) (k:S.κ) (H':Hp),xs[i]?=some x->ks[i]?=some k->aw H H'->sp [x.2.1] H' (fun u H''=>aw H' H''/\S.T K H'' u k) E0) /\
 ∀ (H':Hp) (D:Addr) (p:Array Nat),aw H H'->H' D=none->Pm xs.length p->Up (Co S ks) p xs.length->Q (.ref D) (upd H' D (.lst (p.toList.map (valAt xs))))
section
variable {X:Cx} {pins:List (Addr×Obj)} {σ:List (Option V)} {H:Hp} {s:Shared}
theorem nQ {S:KS} {k:Nat} {g:Addr} {fd:FuncData} {ps:List Str} {sp:Sp} {us:List V} {ws:List Value} {Q:VK} (F:ba X.prog X.w X.K X.mg X.base CX0 k g fd ps sp) (hr:cQ (k+2) X.A) (hb:Binds X.K fd ps [])
  (I:Inv X pins σ H s) (rw_:Vals us ws) (h:qf S X.K sp us H Q):wpAny (model X.prog X.w) X.A (call (.builtin "sorted") ws [(Str.ofString "key", .ref g)]) (EP X pins σ Q) X.xe s:=by
 obtain ⟨d,ep,xs,ks,rfl,ed,h64,kl,kn,hsp,q⟩:=h;cases rw_ with
 | cons r0 r1 =>
 cases r1;have r0:_=Value.ref d:=r0;subst r0;obtain ⟨z,hd,nd,o,es,g1,g2,g3,g4⟩:=(show aW X.prog X.w H s.heap d (.dD ep xs) from I.hok _ _ ed);have hsz:es.size=xs.length:=by rw [Paired.length g4];simp
 refine Cr hr.hd hd ⟨o,g1,g2,g3⟩ (by rw [hsz];exact h64) fun vs D kS e1 h' tk ev hD hDk keep gD gk R hR=>?_;have vl:vs.length=xs.length:=by rw [ev,II,JJ,hsz]
 have hkS:s.heap.objs.size<=kS:=Jt hD (Ls hDk);have rel:∀ (i:Nat) (x:PyData×V×V) (v:Value),xs[i]?=some x->vs[i]?=some v->RelV x.2.1 v:=by
  intro i x v hx hv;obtain ⟨en,h1,h2⟩:=dN g4 i x hx;rw [ev,IX,h1] at hv;cases hv;exact h2.2.1
 have neD:∀ p∈X.pn++pins,p.1≠D:=fun p hp=>Js (Jo (Jc (I.pin p hp).1) hD);have nek:∀ p∈X.pn++pins,p.1≠kS:=fun p hp=>Js (Jo (Jc (I.pin p hp).1) hkS);have I0:Inv X.in2 ((kS,seqObj "list" (List.toArray []) 0) :: (D,seqObj "list" #[] e1) :: pins) σ H { s with heap:=h',toks:=tk }:=by
  have I0:=(I.kept (t':=tk) keep).in2;refine I0.cB fun p hp=>?_;rcases Jb.mp hp with rfl | hp
  ·exact ⟨gk,I.hok.fresh hkS,Kf (Jo I.lt hkS),I.C4 hkS,fun v z=>nomatch z⟩
  ·rcases Jb.mp hp with rfl | hp
   ·exact ⟨gD,I.hok.fresh hD,Kf (Jo I.lt hD),I.C4 hD,fun v z=>nomatch z⟩
   ·exact I0.pin p (IS _ hp)
 have szD:X.s₀.heap.objs.size<=D:=Jt I.sz hD;have szk:X.s₀.heap.objs.size<=kS:=Jt I.sz hkS;have pk:∀ p∈X.pn++(D,seqObj "list" #[] e1) :: pins,p.1≠kS:=fun p hp=>by
  rcases Jv.mp hp with hp | hp
  ·exact nek p (Jr _ hp)
  ·rcases Jb.mp hp with rfl | hp
   ·exact Js hDk
   ·exact nek p (IS _ hp)
 refine Fu (J:=fun ks' s=>∃ H' e,Inv X.in2 ((kS,seqObj "list" (List.toArray ks') e) :: (D,seqObj "list" #[] e1) :: pins) σ H' s/\aw H H'/\∀ i u,ks'[i]?=some u->∃ v k,RelV v u/\ks[i]?=some k/\S.T X.K H' v k) (by rw [vl];exact h64) ?_ ?_ ?_ ⟨H,0,I0,aw.refl _,fun i u z=>absurd z (by rw [show (([]:List Value)[i]?)=none from List.getElem?_nil];exact nofun)⟩
 ·rintro x ks' s' hx hl ⟨H',e,I',sm,hks⟩;have hi:ks'.length < xs.length:=by rw [<- vl];exact (IK.mp hx).1
  have hxi:=IG hi;have hki:=IG (show ks'.length < ks.length by rw [kl];exact hi);refine JV (vL (X:=X.in2) (us:=[x]) (vs:=[xs[ks'.length].2.1]) F (hr.in1.in1) hb .nil yL I' (.cons (rel _ _ _ hxi hx) .nil) (hsp _ _ _ H' hxi hki sm)) (fun u s'' hu=>?_) fun _ _ z=>z;obtain ⟨v,H'',I'',rv,sm',ky⟩:=hu;have gk':=(I''.pin (kS,seqObj "list" (List.toArray ks') e) (IS _ IP)).1;have ea:(List.toArray ks').push u=List.toArray (ks'++[u]):=by simp
  obtain ⟨c2,hc2⟩:∃ c2,(s''.heap.update kS (Obj.mapSeq (·.push u))).get? kS=some (seqObj "list" (List.toArray (ks'++[u])) c2):=⟨_,by rw [<- ea];exact get?_update_seq gk' (·.push u)⟩;refine ⟨⟨e,gk'⟩,H'',c2,I''.Ey szk pk (fun b o hb e=>(J1 _ _ (Ne.symm hb)).trans e) hc2 (fun v z=>nomatch z),sm.trans sm',fun i w hw=>?_⟩;rw [List.getElem?_append] at hw;split at hw
  ·obtain ⟨v',k',a1,a2,a3⟩:=hks i w hw;exact ⟨v',k',a1,a2,S.same a3 sm'⟩
  ·rename_i hge;have:i=ks'.length:=by
    have:=(IK.mp hw).1;rw [KP] at this;omega
   subst this;rw [Lr] at hw;cases hw;exact ⟨v,_,rv,hki,ky⟩
 ·rintro ks' s' ⟨H',e,I',_⟩;exact ⟨e,(I'.pin (kS,seqObj "list" (List.toArray ks') e) (IS _ IP)).1⟩
 ·rintro ks' s' hl ⟨H',e,I',sm,hks⟩;have gk':=I'.pin (kS,seqObj "list" (List.toArray ks') e) (IS _ IP);have gD':=I'.pin (D,seqObj "list" #[] e1) (IS _ (IZ _ IP));have ky:∀ i,i < vs.length->S.Hh s'.heap (ks'.getD i Value.none) (ks.getD i S.dft):=by
   intro i hi;obtain ⟨v,k,a1,a2,a3⟩:=hks i _ (IG (show i < ks'.length by rw [hl];exact hi));rw [JH,JH,a2,IG (show i < ks'.length by rw [hl];exact hi)];exact S.key I' a1 a3
  refine HM (κ:=tuples' true) (lt:=Co S ks) hl (by rw [vl];exact h64) (Js hDk) gk'.1 gD'.1 (fun h2 Q' hq=>?_) (fun i j C hi hj hC=>?_) (by rw [vl,<-kl];exact Gy S kn) fun p hp hu=>hR _ ?_
  ·refine S.kd (s:=s') (us:=ks') (fun u hu=>?_) (by omega) hq;obtain ⟨i,hi⟩:=KO.mp hu;obtain ⟨v,k,a1,a2,a3⟩:=hks i u hi;exact ⟨k,S.key I' a1 a3⟩
  ·unfold kas_ask;exact S.ask (hr.in1.in1).units (ky i hi) (ky j hj) hC
  ·have I2:Inv X pins σ H' s':=I'.uv.uv.Hx;rw [vl] at hp hu;have el:Vals (p.toList.map (valAt xs)) (p.toList.map fun i=>vs.getD i Value.none):=by
    have hb:∀ i∈p.toList,i < xs.length:=fun i hi=>by
     have:=(LB.mp hp).mem_iff.mp hi;simpa using this
    revert hb;generalize p.toList=l;intro hb;induction l with
    | nil=>exact .nil
    | cons i l ih =>
     refine .cons ?_ (ih fun j hj=>hb j (IZ _ hj));have hi:=hb i IP;unfold valAt;show RelV _ (vs.getD i Value.none);rw [IG hi,JH,IG (show i < vs.length by rw [vl];exact hi)];exact rel i _ _ (IG hi) (IG (show i < vs.length by rw [vl];exact hi))
   have gDD:((s'.heap.update kS (Obj.mapSeq fun _=>(#[]:Array Value)))).get? D=some (seqObj "list" #[] e1):=(J1 _ _ (Kf hDk)).trans gD'.1;obtain ⟨c2,hc2⟩:∃ c2,((s'.heap.update kS (Obj.mapSeq fun _=>(#[]:Array Value))).update D (Obj.mapSeq fun _=>List.toArray (p.toList.map fun i=>vs.getD i Value.none))).get? D=some (seqObj "list" (List.toArray (p.toList.map fun i=>vs.getD i Value.none)) c2):=⟨_,get?_update_seq gDD fun _=>_⟩;refine ⟨.ref D,_,I2.Ik (o:=.lst (p.toList.map (valAt xs))) szD szk gD'.2.1 gk'.2.1 gD'.2.2.1 gk'.2.2.1 (I'.uv.qW) I'.qW neD nek (fun b u b1 b2 e=>(J1 _ _ (Ne.symm b1)).trans ((J1 _ _ (Ne.symm b2)).trans e)) ⟨?_,_,c2,el,hc2⟩,rfl,q H' D p sm gD'.2.1 hp hu⟩;rw [II,JJ,hp.size,J3];omega
end
section
variable {X:Cx} {k:Nat} {g:Addr} {fd:FuncData} {ps:List Str} {sp:Sp} {f:Str} {p pf pos kpos:Pos} {e:Expr} {te:TE}
theorem uY {S:KS} (F:ba X.prog X.w X.K X.mg X.base CX0 k g fd ps sp) (hr:cQ (k+2) X.A) (hb:Binds X.K fd ps []) (hgs:Gl X "sorted") (hms:X.mg "sorted" = none) (hv:bootBuiltins "sorted" = some (.builtin "sorted")) (hgf:Gl X f) (hmf:X.mg f=some (.ref g)) (hdf:(f==("__debug__" : Str))=false)
  (ha:PA X [e] (cF te kM)) (h1:PySem.W.isStarred e=false):PE X (.Call (.Name "sorted" p) [e] [⟨some "key", .Name f pf,kpos⟩] pos) (tCB (qf S X.K sp) (cF te kM)):=by
 intro pins s σ H Q I h;refine Lv (hG I hgs hms hv ?_ (by decide) (by decide));refine callWith_kw (thn (ha pos pins s σ H _ I h) fun us s1 ⟨vs,H1,I1,r1,q1⟩=>?_) (by rw [aD h1];rfl) (by rw [aD h1];rfl) (by rfl) (by rfl);have pk:PK X [⟨some "key", .Name f pf,kpos⟩] (cF (tC (.ref g)) kM):=xf (pJ hgf hmf rfl hdf) AR;refine thn (pk pos pins s1 σ H1 (fun zs H2=>zs=[.ref g]/\H2=H1) I1 ⟨rfl,rfl⟩) fun ws s2 ⟨zs,H2,I2,rz,e1,e2⟩=>?_;subst e1 e2;cases rz with
 | cons a b =>
  cases b;have a:_=Value.ref g:=a;subst a;exact nQ F hr hb I2 r1 q1
end
namespace Sg
noncomputable def vM (S:KS) (f:Fn) (d:PyData):Option S.κ:=match f.F [d] with | some (.dat k,[])=>S.of k | _=>none
noncomputable def jg (S:KS) (f:Fn):List PyData->Option (List S.κ)
 | []=>some []
 | d :: ds=>match vM S f d,jg S f ds with | some k,some ks=>some (k :: ks) | _,_=>none
noncomputable def xD {S:KS} (x:S.κ×PyData):List (S.κ×PyData)->List (S.κ×PyData)
 | []=>[x]
 | y :: r=>if S.lt x.1 y.1=true then x :: y :: r else y :: xD x r
noncomputable def tu {S:KS}:List (S.κ×PyData)->List (S.κ×PyData)
 | []=>[]
 | x :: r=>xD x (tu r)
theorem fQ {S:KS} (x:S.κ×PyData):∀ l,(xD x l).Perm (x :: l)
 | []=>Kd _
 | y :: r=>by
  unfold xD;split
  ·exact Kd _
  ·exact ((fQ x r).cons y).trans (List.Perm.swap ..)
theorem du {S:KS}:∀ l:List (S.κ×PyData),(tu l).Perm l
 | []=>Kd _
 | x :: r=>(fQ x _).trans ((du r).cons x)
theorem pX {S:KS} (x:S.κ×PyData):∀ l,(∀ y∈l,x.1≠y.1)->l.Pairwise (fun a b=>S.lt a.1 b.1=true)->(xD x l).Pairwise fun a b=>S.lt a.1 b.1=true
 | [],_,_=>by simp [xD]
 | y :: r,hn,h=>by
  obtain ⟨h1,h2⟩:=JM.mp h;unfold xD;split
  ·rename_i c;refine JM.mpr ⟨fun b hb=>?_,h⟩;rcases Jb.mp hb with rfl | hb
   ·exact c
   ·exact S.tr c (h1 b hb)
  ·rename_i c;refine JM.mpr ⟨fun b hb=>?_,pX x r (fun z hz=>hn z (IZ _ hz)) h2⟩;rcases Jb.mp ((fQ x r).mem_iff.mp hb) with rfl | hb
   ·exact S.tot (hn y IP) (Bool.eq_false_iff.mpr c)
   ·exact h1 b hb
theorem lu {S:KS}:∀ l:List (S.κ×PyData),(l.map (·.1)).Nodup->(tu l).Pairwise fun a b=>S.lt a.1 b.1=true
 | [],_=>.nil
 | x :: r,h=>by
  obtain ⟨h1,h2⟩:=J4.mp h;exact pX x _ (fun y hy z=>h1 (Jz.mpr ⟨y,(du r).mem_iff.mp hy,z.symm⟩)) (lu r h2)
theorem tU {S:KS} {ks:List S.κ} {ds:List PyData} {p:Array Nat} (hl:ks.length=ds.length) (hn:ks.Nodup) (hp:Pm ds.length p) (hu:Up (Co S ks) p ds.length):(tu (ks.zip ds)).map (·.2)=p.toList.map fun i=>ds.getD i .none:=by
 have e1:(ks.zip ds).map (·.1)=ks:=by rw [List.map_fst_zip (Nat.le_of_eq hl)]
 have zl:(ks.zip ds).length=ds.length:=by rw [List.length_zip,hl,Nat.min_self]
 have O:Ord (Co S ks) ds.length:=by rw [<- hl];exact Gy S hn
 have row:p.toList.map (fun i=>(ks.getD i S.dft,ds.getD i .none))=tu (ks.zip ds):=by
  refine K6 (le:=fun a b=>S.lt a.1 b.1=true) (fun a b _ _ h1 h2=>?_) ?_ (lu _ (by rw [e1];exact hn)) ?_
  ·have:=S.tr h1 h2;rw [S.irr _] at this;cases this
  ·rw [LH,Kw];intro i j hi hj hij;have:=hu.all O hij (by rw [<- hp.size];simpa using hj);unfold at_ at this;rw [KY,KY,JK (by simpa using hi),JK (by simpa using hj)] at this;exact this
  ·refine (((LB.mp hp).map _).trans ?_).trans (du _).symm;refine List.Perm.of_eq ?_;apply LJ;intro i;rw [List.toList_toArray,IX];rcases K1 i ds.length with z | z
   ·have zk:i < ks.length:=by rw [hl];exact z
    rw [List.getElem?_range z,show (ks.zip ds)[i]?=some (ks[i],ds[i]) from List.getElem?_zip_eq_some.mpr ⟨IG zk,IG z⟩];simp [JH,IG (show i < ks.length by rw [hl];exact z),IG z]
   ·rw [Lh (by rw [J9];exact z),Lh (by rw [zl];exact z)];rfl
 rw [<- row,KI];rfl
theorem ke {S:KS} {f:Fn}:∀ {ds:List PyData} {ks:List S.κ},jg S f ds=some ks->ks.length=ds.length
 | [],ks,h=>by cases h;rfl
 | d :: ds,ks,h=>by
  unfold jg at h;split at h
  ·rename_i k ks' _ h2;cases h;rw [Jf,ke h2,Jf]
  ·cases h
theorem j9 {S:KS} {f:Fn}:∀ {ds:List PyData} {ks:List S.κ} {i:Nat} {d:PyData} {k:S.κ},jg S f ds=some ks->ds[i]?=some d->ks[i]?=some k->vM S f d=some k
 | [],ks,i,d,k,h,h1,h2=>by simp at h1
 | e :: ds,ks,i,d,k,h,h1,h2=>by
  unfold jg at h;split at h
  ·rename_i k' ks' h3 h4;cases h;cases i with
   | zero=>simp at h1 h2;subst h1 h2;exact h3
   | succ i=>exact j9 h4 (by simpa using h1) (by simpa using h2)
  ·cases h
noncomputable def mP (S:KS) (f:Fn):List PyData->Option PR
 | [.dict kvs]=>match jg S f (kvs.map (·.1)) with
  | some ks=>if kvs.length < 4096/\@decide ks.Nodup (@List.nodupDecidable _ S.dec ks)=true then some (.frs (.list ((tu (ks.zip (kvs.map (·.1)))).map (·.2)))) else none
  | none=>none
 | _=>none
noncomputable def jJ (S:KS) (f:Fn) (hm:f.ms=[.dat]):Prm where
 r:=fun K=>qf S K (bH f K)
 f:=mP S f
 ok:=by
  intro K F H ds vs pr Q hf hv hF q;unfold mP at hf;split at hf
  ·rename_i kvs;split at hf
   ·rename_i ks hks;split at hf
    ·rename_i c;replace c:kvs.length < 4096/\ks.Nodup:=⟨c.1,@of_decide_eq_true _ (_) c.2⟩;cases hf;obtain ⟨v,r,rfl,⟨a,rfl,ep,xs,ea,z,dp⟩,rfl⟩:=hv;have xl:=dp.kE;have kl:ks.length=(kvs.map (·.1)).length:=ke hks;have xk:xs.length=(kvs.map (·.1)).length:=by rw [xl,II]
     refine ⟨a,ep,xs,ks,rfl,ea,by rw [xl];exact c.1,by rw [kl,xk],c.2,fun i x k H' hx hk sm=>?_,fun H' D p sm hD hp hu=>?_⟩
     ·obtain ⟨d1,d2⟩:=dp.get hx;have kf:=j9 hks d1 hk;unfold vM at kf;split at kf
      ·rename_i kd hFd;have d3:Dm K F H' x.1 x.2.1:=d2.pr (fun b o e _=>sm b o e) fun _ z=>z;refine ⟨F,[x.1],[],.dat kd,[],hFd,by rw [hm];exact ⟨d3,rfl⟩,fun b hb=>?_,fun v' H'' hs hr=>⟨fun b o e=>hs b o e (by simp),?_⟩⟩
       ·intro z;cases e:H b with
        | none=>exact hF b hb e
        | some o=>rw [sm b o e] at z;cases z
       ·exact S.ofT kf hr.1
      ·cases kf
     ·have hDn:H D=none:=sm.free hD;refine q _ _ (fun b o e=>?_) ⟨D,rfl,hDn,_,ag,?_,?_⟩
      ·have:b≠D:=fun z=>by rw [z,hDn] at e;cases e
       rw [ae this];exact sm b o e
      ·rw [II,JJ,hp.size];exact z
      ·rw [xk] at hp hu;rw [tU kl c.2 hp hu];have hb:∀ i∈p.toList,i < xs.length:=fun i hi=>by
        have:=(LB.mp hp).mem_iff.mp hi;rw [xk];simpa using this
       have hU:∀ b,b≠D->upd H' D (.lst (p.toList.map (valAt xs))) b=H' b:=fun b hb=>ae hb;generalize upd H' D (.lst (p.toList.map (valAt xs)))=H9 at hU;revert hb;generalize p.toList=l;intro hb;induction l with
       | nil=>exact rfl
       | cons i l ih =>
        have hi:=hb i IP;obtain ⟨d1,d2⟩:=dp.get (IG hi);refine ⟨_,_,rfl,?_,ih fun j hj=>hb j (IZ _ hj)⟩;show Dm K _ _ ((kvs.map (·.1)).getD i .none) (valAt xs i);unfold valAt;rw [JH,d1,IG hi];have d3:Dm K F H' xs[i].1 xs[i].2.1:=d2.pr (fun b o e _=>sm b o e) fun _ z=>z;refine (d3.fresh hD).pr (fun b o e _=>?_) fun _ z=>z;have:b≠D:=fun z=>by rw [z,hD] at e;cases e
        rw [hU b this];exact e
    ·cases hf
   ·cases hf
  ·cases hf
section
variable {X:Cx} {k:Nat} {g:Addr} {fd:FuncData} {ps:List Str} {fn:Fn} {f:Str} {p pf pos kpos:Pos} {e:Expr} {te:TE}
theorem vG (S:KS) (hm:fn.ms=[.dat]) (F:ba X.prog X.w X.K X.mg X.base CX0 k g fd ps (bH fn X.K)) (hr:cQ (k+2) X.A) (hb:Binds X.K fd ps []) (hgs:Gl X "sorted") (hms:X.mg "sorted" = none) (hv:bootBuiltins "sorted" = some (.builtin "sorted")) (hgf:Gl X f) (hmf:X.mg f=some (.ref g)) (hdf:(f==("__debug__" : Str))=false)
  (ha:JA X [e] (cF te kM)) (h1:PySem.W.isStarred e=false):JE X (.Call (.Name "sorted" p) [e] [⟨some "key", .Name f pf,kpos⟩] pos) (tCB ((jJ S fn hm).r X.K) (cF te kM)):=⟨uY F hr hb hgs hms hv hgf hmf hdf ha.h h1⟩
end
end Sg
noncomputable abbrev Fy:=Str×Str×Ky
noncomputable def ltF (x y:Fy):Bool:=if x.1=y.1 then (if x.2.1=y.2.1 then ltK x.2.2 y.2.2 else decide (x.2.1.cps.toList < y.2.1.cps.toList)) else decide (x.1.cps.toList < y.1.cps.toList)
theorem qx (x:Fy):ltF x x=false:=by
 unfold ltF;rw [IV rfl,IV rfl];exact iY _
theorem xE {x y:Str} (h:x.cps.toList=y.cps.toList):x=y:=by
 cases x;cases y;simpa using Ll.mp h
theorem oT (x:Str):¬x.cps.toList < x.cps.toList:=Ly _
theorem vW {x y z:Fy} (h1:ltF x y=true) (h2:ltF y z=true):ltF x z=true:=by
 obtain ⟨x1,x2,x3⟩:=x;obtain ⟨y1,y2,y3⟩:=y;obtain ⟨z1,z2,z3⟩:=z;unfold ltF at *;dsimp only at *;split at h1 <;> split at h2
 ·rename_i a b;rw [IV (a.trans b)];split at h1 <;> split at h2
  ·rename_i c d;rw [IV (c.trans d)];exact o8 h1 h2
  ·rename_i c d;rw [IU (by rw [c];exact d),c];exact h2
  ·rename_i c d;rw [IU (by rw [<- d];exact c),<-d];exact h1
  ·have:=List.lt_trans (J0 h1) (J0 h2);rw [IU (fun e=>by rw [e] at this;exact oT _ this)];exact Jq this
 ·rename_i a b;rw [IU (by rw [a];exact b),a];exact h2
 ·rename_i a b;rw [IU (by rw [<- b];exact a),<-b];exact h1
 ·have:=List.lt_trans (J0 h1) (J0 h2);rw [IU (fun e=>by rw [e] at this;exact oT _ this)];exact Jq this
theorem qU {x y:Str} (hn:¬x=y) (h:¬x.cps.toList < y.cps.toList):y.cps.toList < x.cps.toList :=
 Kx fun n=>hn (xE (List.le_antisymm (List.not_lt.mp n) (List.not_lt.mp h)))
theorem r9 {x y:Fy} (hn:x≠y) (h:ltF x y=false):ltF y x=true:=by
 obtain ⟨x1,x2,x3⟩:=x;obtain ⟨y1,y2,y3⟩:=y;unfold ltF at *;dsimp only at *;split at h
 ·rename_i a;rw [IV a.symm];split at h
  ·rename_i b;rw [IV b.symm];exact lC (fun z=>hn (by rw [a,b,z])) h
  ·rename_i b;rw [IU (fun z=>b z.symm)];exact Jq (qU b (Lb h))
 ·rename_i a;rw [IU (fun z=>a z.symm)];exact Jq (qU a (Lb h))
noncomputable abbrev FyV (k:Fy):List V:=[.int k.2.2.1,.int k.2.2.2.1,.str k.2.2.2.2]
noncomputable def FyT (K:Fg) (H:Hp) (u:V) (k:Fy):Prop:=∃ t t2,u=.ref t/\SqT K H t [.str k.1,.str k.2.1,.ref t2]/\SqT K H t2 (FyV k)/\PyData.strOk k.2.2.2.2=true
theorem mN {K:Fg} {H H':Hp} {t:Addr} {xs:List V} (h:SqT K H t xs) (e:aw H H'):SqT K H' t xs:=by
 rcases h with (h | ⟨o,h⟩) | h
 ·exact .inl (.inl (e _ _ h))
 ·exact .inl (.inr ⟨o,e _ _ h⟩)
 ·exact .inr h
noncomputable def FyH (h:Heap) (u:Value) (k:Fy):Prop:=∃ t t2 a1 a2 b1 b2 b3,u=.ref t/\IsTup h t #[.str k.1 a1,.str k.2.1 a2,.ref t2]/\IsTup h t2 #[.int k.2.2.1 b1,.int k.2.2.2.1 b2,.str k.2.2.2.2 b3]/\PyData.strOk k.2.2.2.2=true
theorem A3 {X:Cx} {pins:List (Addr×Obj)} {σ:List (Option V)} {H:Hp} {s:Shared} {v:V} {u:Value} {k:Fy} (I:Inv X pins σ H s) (r:RelV v u) (h:FyT X.K H v k):FyH s.heap u k:=by
 obtain ⟨t,t2,rfl,h,h',so⟩:=h;obtain ⟨its,r2,h2,_⟩:=I.tuple h;obtain ⟨its',r3,h3,_⟩:=I.tuple h';cases r2 with
 | cons a r2 =>
  cases r2 with
  | cons b r2 =>
   cases r2 with
   | cons c r2 =>
    cases r2;obtain ⟨t1,rfl⟩:=a;obtain ⟨t4,rfl⟩:=b;have c:_=Value.ref t2:=c;subst c;cases r3 with
    | cons a r3 =>
     cases r3 with
     | cons b r3 =>
      cases r3 with
      | cons c r3 =>
       cases r3;obtain ⟨q1,rfl⟩:=a;obtain ⟨q2,rfl⟩:=b;obtain ⟨q3,rfl⟩:=c;exact ⟨t,t2,t1,t4,q1,q2,q3,r,h2,h3,so⟩
noncomputable def kyD (k:Ky):PyData:=.tuple [.int k.1,.int k.2.1,.str k.2.2]
theorem pY (a b:Ky):PyData.eqv (kyD a) (kyD b)=true↔a=b:=by
 obtain ⟨a1,a2,a3⟩:=a;obtain ⟨b1,b2,b3⟩:=b;simp [kyD,PyData.eqv,PyData.eqvAll]
theorem nj {h:Heap} {t:Addr} {k:Ky} {b1 b2 b3:Tok} (hx:IsTup h t #[.int k.1 b1,.int k.2.1 b2,.str k.2.2 b3]):∃ as,Reads h (.ref t) (kyD k) as:=by
 obtain ⟨o,h1,h2,n,h4⟩:=hx;exact ⟨_,.tuple h1 h2 h4 (.cons (.int _ _) (.cons (.int _ _) (.cons (.str _ _) .nil)))⟩
theorem fT {k:Ky} (h:PyData.strOk k.2.2=true):SeqAt.shaped (kyD k)=true:=by
 have d:(kyD k).depth<=64:=by simp [kyD,PyData.depth,PyData.depthAll]
 have l:(kyD k).canLay0=true:=by simp [kyD,PyData.canLay0,PyData.canLayAll0,h]
 simp [SeqAt.shaped,l,d]
theorem zL {P:Program} {w:World} {A:Around} {E:Value->Shared->Prop} {s:Shared} {u v:Value} {a b:Fy} {C:Bool->Shared->Prop} (hu:A.units+64 < cLine) (hx:FyH s.heap u a) (hy:FyH s.heap v b) (h:C (ltF a b) s):wpAny (model P w) A (keyLt' (tuples' true) u v) C E s:=by
 obtain ⟨x,x',t1,t2,t3,t4,t5,rfl,hx,hx',ox⟩:=hx;obtain ⟨y,y',u1,u2,u3,u4,u5,rfl,hy,hy',oy⟩:=hy;obtain ⟨ox,gx,cx,n,dx⟩:=hx;obtain ⟨oy,gy,cy,k,dy⟩:=hy;unfold ltF at h;refine kat_lt gx dx gy dy ?_;show KatLex P w A true _ C [(.str a.1 t1,.str b.1 u1),(.str a.2.1 t2,.str b.2.1 u2),(.ref x',.ref y')] 0 s;refine kat_cons (eqBool_str (kat_go (fun e=>kat_yes ?_) fun e=>kat_no (oneLt_str ?_)))
 ·rw [IV (JD.mp e)] at h;refine kat_cons (eqBool_str (kat_go (fun e=>kat_yes ?_) fun e=>kat_no (kat_one _ _ (lt_str ?_))))
  ·rw [IV (JD.mp e)] at h;obtain ⟨as,ra⟩:=nj (k:=a.2.2) hx';obtain ⟨bs,rb⟩:=nj (k:=b.2.2) hy';refine kat_cons (SeqAt.eqAt_reads _ _ A s _ _ as bs ra rb (SeqAt.canLay_of_shaped (fT ‹_›)) (SeqAt.canLay_of_shaped (fT ‹_›)) (SeqAt.room_of_shaped (fT ‹_›) hu) P w _ _ (kat_go (fun e=>kat_yes ?_) fun e=>kat_no (kat_one _ _ ?_)))
   ·have e:=(pY _ _).mp e;rw [e,iY] at h;exact kat_nil h
   ·have ne:a.2.2≠b.2.2:=fun z=>by rw [(pY _ _).mpr z] at e;cases e
    refine qK hx' hy' (.ii _ _ _ _ (.ii _ _ _ _ (.ss _ _ _ _ .nil))) (by omega) ?_;have el:(if a.2.2.1=b.2.2.1 then if a.2.2.2.1=b.2.2.2.1 then if a.2.2.2.2=b.2.2.2.2 then false else decide (a.2.2.2.2.cps.toList < b.2.2.2.2.cps.toList) else decide (a.2.2.2.1 < b.2.2.2.1) else decide (a.2.2.1 < b.2.2.1))=ltK a.2.2 b.2.2:=by
     unfold ltK;split
     ·split
      ·split
       ·rename_i z;rw [z,Jy (Ly _)]
       ·rfl
      ·rfl
     ·rfl
    rw [el];exact h
  ·rw [IU (fun z=>by rw [z,JN] at e;cases e)] at h;exact h
 ·rw [IU (fun z=>by rw [z,JN] at e;cases e)] at h;exact h
theorem Au {h:Heap}:∀ {us:List Value},(∀ u∈us,∃ k,FyH h u k)->∃ fs,KatTups h us fs/\fs.length=us.length/\∀ v∈fs,∃ i t,v=.str i t
 | [],_=>⟨[],trivial,rfl,fun _ z=>nomatch z⟩
 | u :: us,hu=>by
  obtain ⟨k,t,t2,t1,a2,a3,a4,a5,rfl,⟨o,g,c,n,d⟩,_⟩:=hu u IP;obtain ⟨fs,h1,h2,h3⟩:=Au fun v hv=>hu v (IZ _ hv);refine ⟨.str k.1 t1 :: fs,KatTups.cons g c d rfl h1,by rw [Jf,h2,Jf],fun v hv=>?_⟩;rcases Jb.mp hv with rfl | hv
  ·exact ⟨_,_,rfl⟩
  ·exact h3 v hv
noncomputable def GI:PyData->Option Fy | .tuple [.str a,.str b,.tuple [.int i,.int j,.str x]]=>some (a,b,i,j,x) | _=>none
noncomputable def fyS:KS where
 κ:=Fy
 dft:=("", "", 0,0, "")
 dec:=inferInstance
 lt:=ltF
 irr:=qx
 tr:=vW
 tot:=r9
 T:=FyT
 same:=fun ⟨t,t2,e,h1,h2,h3⟩ sm=>⟨t,t2,e,mN h1 sm,mN h2 sm,h3⟩
 Hh:=FyH
 key:=A3
 ask:=zL
 kd:=fun {P w A E s us Q} hu h0 hq=>by
  obtain ⟨fs,t1,t2,t3⟩:=Au hu;refine kat_kind (T:=.type "str") t1 (by rw [t2];exact h0) (fun v hv=>?_) rfl hq;obtain ⟨i,t,rfl⟩:=t3 v hv;exact Looks.of_pure rfl
 of:=GI
 ofT:=fun {K F H d u k} e h=>by
  unfold GI at e;split at e
  ·cases e;obtain ⟨t,ys,rfl,sq,_,u1,r1,rfl,e1,u2,r2,rfl,e2,u3,r3,rfl,e3,rfl⟩:=h;obtain ⟨t2,zs,rfl,sq2,_,w1,q1,rfl,f1,w2,q2,rfl,f2,w3,q3,rfl,f3,rfl⟩:=e3;have e1:u1=_:=e1.1;have e2:u2=_:=e2.1;have f1:w1=_:=f1;have f2:w2=_:=f2;have f4:w3=_:=f3.1;subst e1 e2 f1 f2 f4;exact ⟨t,t2,rfl,sq,sq2,f3.2.2⟩
  ·cases e
end L2
end
section
namespace L2
open PySem PySem.Spec PyProof.Rows
theorem qr {S:KS} {f:Fn} {hm:f.ms=[.dat]} {e:En} {x:AV} {kvs:List (PyData×PyData)} {ks:List S.κ} {Q:RV->En->Prop} (h1:aA e [x]=some [.dict kvs]) (h2:Sg.jg S f (kvs.map (·.1))=some ks) (h3:kvs.length < 4096) (h4:ks.Nodup) (q:∀ r,r=(Sg.tu (ks.zip (kvs.map (·.1)))).map (·.2)->Q (.frs (.list r)) e):WPr (Sg.jJ S f hm) [x] e Q:=by
 have e:(Sg.jJ S f hm).f [.dict kvs]=some (PR.frs (.list ((Sg.tu (ks.zip (kvs.map (·.1)))).map (·.2)))):=by
  show Sg.mP S f [.dict kvs]=_;simp only [Sg.mP,h2];rw [IV ⟨h3,@decide_eq_true _ (_) h4⟩]
 exact ⟨_,_,h1,e,q _ rfl⟩
theorem l9 {α β γ:Type} (f:α->β) (g:α->γ):∀ U:List α,(U.map f).zip (U.map g)=U.map fun a=>(f a,g a)
 | []=>rfl
 | a :: U=>by rw [List.map_cons,List.map_cons,Lw,l9 f g U];rfl
theorem wj {S:KS} {α:Type} (key:α->S.κ) (enc:α->PyData) {U L:List α} (hU:(U.map key).Nodup) (hL:L.Pairwise fun a b=>S.lt (key a) (key b)=true) (hp:L.Perm U):(Sg.tu ((U.map key).zip (U.map enc))).map (·.2)=L.map enc:=by
 have ez:=l9 key enc U;have row:L.map (fun a=>(key a,enc a))=Sg.tu ((U.map key).zip (U.map enc)):=by
  refine K6 (le:=fun a b=>S.lt a.1 b.1=true) (fun a b _ _ h1 h2=>?_) ?_ (Sg.lu _ ?_) ?_
  ·have:=S.tr h1 h2;rw [S.irr] at this;cases this
  ·rw [LH];exact hL
  ·rw [List.map_fst_zip (by simp)];exact hU
  ·refine List.Perm.trans ?_ (Sg.du _).symm;rw [ez];exact hp.map _
 rw [<- row,KI];rfl
end L2
end
section
namespace L2
open PySem PySem.Spec PyProof.Rows PySem.W
noncomputable def zA (K:Fg):V->Hp->VK->Prop:=fun x H Q=>∃ F d,Vw K F H d x/\∀ H',aw H H'->Q (.bl (isL d||isT d)) H'
noncomputable def Ct:Prm:=Prm.one zA (fun d=>some (.dat (.bool (isL d||isT d)))) fun K F H x u pr Q hf hx hd q=>by
 cases hf;exact ⟨F,x,hx,fun H' sm=>q _ H' sm rfl⟩
noncomputable def Di (K:Fg):List V->Hp->VK->Prop:=fun vs H Q=>∃ x tp F d,vs=[x,.ref tp]/\H tp=some (.tup [.ty "list", .ty "tuple"])/\Vw K F H d x/\Q (.bl (isL d||isT d)) H
theorem uC {K:Fg} (d:PyData):PySem.W.kitAny K (.type (tyN d)) [.type "list", .type "tuple"]=some (isL d||isT d):=by
 unfold PySem.W.kitAny PySem.W.kitAny PySem.W.kitAny;rw [Av d,Cz d];cases isL d <;> cases isT d <;> rfl
theorem xM {X:Cx}:aQ X (.builtin "isinstance") (Di X.K):=by
 rintro pins s σ H xs us Q I r ⟨x,tp,F,d,rfl,ht,hv,q⟩;obtain ⟨u,w',rfl,r1,r2⟩:=vals2 r;cases (show w'=Value.ref tp from r2);obtain ⟨_,its,rv,⟨o,g1,g2,n,g3⟩⟩:=(show aW X.prog X.w H s.heap tp (.tup [.ty "list", .ty "tuple"]) from I.hok tp _ ht);obtain ⟨u1,u2,rfl,ra,rb⟩:=vals2 rv;cases (show u1=Value.type "list" from ra);cases (show u2=Value.type "tuple" from rb);have htp:s.heap.get? tp=some ⟨.type "tuple", o.dict,.seq [Value.type "list", Value.type "tuple"].toArray n,o.slots⟩:=by
  rw [g1];obtain ⟨c,dd,da,sl⟩:=o;have g2:c=.type "tuple" := g2;have g3:da=_:=g3;subst g2 g3;rfl
 have e:=uC (K:=X.K) d;have fin:∀ tk,EP X pins σ Q (.bool (isL d||isT d)) { s with toks:=tk }:=fun tk=>⟨.bl _,H,I.tok _,rfl,q⟩;cases d with
 | none=>rw [Gq hv] at r1;cases (show u=Value.none from r1);exact K8 PySem.W.kitx_none I.kIn True.intro htp e (fun z=>nomatch z) fin
 | bool y=>rw [vBl hv] at r1;cases (show u=Value.bool y from r1);exact K8 PySem.W.kitx_bool I.kIn True.intro htp e (fun z=>nomatch z) fin
 | int i=>rw [vInt hv] at r1;obtain ⟨t,q⟩:=(show ∃ t,u=Value.int i t from r1);cases q;exact K8 PySem.W.kitx_int I.kIn True.intro htp e (fun z=>nomatch z) fin
 | str y=>rw [(vStr hv).1] at r1;obtain ⟨t,q⟩:=(show ∃ t,u=Value.str y t from r1);cases q;exact K8 PySem.W.kitx_str I.kIn True.intro htp e (fun z=>nomatch z) fin
 | list ds =>
  obtain ⟨a,xs,rfl,l,z,rs⟩:=nG hv;cases (show u=Value.ref a from r1);obtain ⟨its,rv,⟨o,k,h1,h2,h3,h4⟩,_⟩:=I.list l;exact K8 PySem.W.kitx_list I.kIn ⟨o,h1,h2⟩ htp e (fun z=>nomatch z) fin
 | tuple ds =>
  obtain ⟨a,xs,rfl,l,z,rs⟩:=uV hv;cases (show u=Value.ref a from r1);obtain ⟨its,rv,⟨o,h1,h2,k,h4⟩,_⟩:=I.tuple l;exact K8 PySem.W.kitx_tuple I.kIn ⟨o,h1,h2⟩ htp e (fun z=>nomatch z) fin
 | dict ds =>
  obtain ⟨a,rfl,ep,xs,ea,_⟩:=hv;cases (show u=Value.ref a from r1);obtain ⟨_,_,_,o,es,h1,h2,_⟩:=(show aW X.prog X.w H s.heap a (.dD ep xs) from I.hok a _ ea);exact K8 PySem.W.kitx_dict I.kIn ⟨o,h1,h2.1⟩ htp e (fun z=>nomatch z) fin
theorem Fe {X:Cx} {e:Expr} {te:TE} {x1} {p p2 p3 pos pos2:Pos} (hg:Gl X "isinstance") (hm:X.mg "isinstance" = none) (ha:JE X e te) (hs:PySem.W.isStarred e=false)
  (hb:JE X (.Name (Str.ofString "list") p2) (tC (.ty "list"))) (hb2:JE X (.Name (Str.ofString "tuple") p3) (tC (.ty "tuple"))) :
  JE X (.Call (.Name "isinstance" p) [e,.Tuple [.Name (Str.ofString "list") p2,.Name (Str.ofString "tuple") p3] x1 pos2] [] pos) (tCB (Ct.r X.K) (cF te kM)):=by
 let te':TE:=fun σ H P=>∃ P0:VK,te σ H P0/\∀ x H1,P0 x H1->P x H1
 have ha':JE X e te':=⟨fun pins s σ H P I ⟨P0,h0,h1⟩=>JV (ha.h pins s σ H P0 I h0) (fun v s' ⟨x,H',I',r,q⟩=>⟨x,H',I',r,h1 _ _ q⟩) fun _ _ z=>z⟩;have htu:JE X (.Tuple [.Name (Str.ofString "list") p2,.Name (Str.ofString "tuple") p3] x1 pos2) (CY (cF (tC (.ty "list")) (cF (tC (.ty "tuple")) kM))):=tm (eA hb (eA hb2 aj rfl) rfl);have outer:=eB (p:=p) (pos:=pos) (xM (X:=X)) hg hm (by decide +kernel) (eA ha' (eA htu aj rfl) hs) hs rfl (by decide) rfl;refine ⟨?_⟩;intro pins s σ H Q I hT;refine outer.h pins s σ H Q I ⟨_,hT,fun x H1 z=>?_⟩;obtain ⟨F,d,hv,q⟩:=(show zA X.K x H1 Q from z);refine ⟨by decide,fun tp htp=>⟨x,tp,F,d,rfl,ag,?_,q _ (aw.nw _ htp)⟩⟩;have sm:aw H1 (upd H1 tp (.tup [.ty "list", .ty "tuple"])):=aw.nw _ htp;have pr:=Pr.of_same (F:=F) sm;cases d with
 | list ds=>obtain ⟨a,rfl,z2⟩:=hv;exact ⟨a,rfl,oR.pr z2 pr (fun _ z=>z) (sm a)⟩
 | dict ds=>obtain ⟨a,rfl,z2⟩:=hv;exact ⟨a,rfl,oR.pr z2 pr (fun _ z=>z) (sm a)⟩
 | none=>exact Dm.pr pr (fun _ z=>z) hv
 | bool b=>exact Dm.pr pr (fun _ z=>z) hv
 | int b=>exact Dm.pr pr (fun _ z=>z) hv
 | str b=>exact Dm.pr pr (fun _ z=>z) hv
 | tuple b=>exact Dm.pr pr (fun _ z=>z) hv
noncomputable def Dh:PyData->PyData->Option PR
 | .tuple ds,.tuple es=>FR (.tuple ds) (.tuple es)
 | x,y=>zx (fun i j=>decide (i < j)) ltS x y
noncomputable def DO:Prm:=Prm.two (fun K=>rOr (rOr (rI0 fun i j=>.bl (decide (i < j))) Ec) (DV K)) Dh fun K F H x y u v pr Q hf hx hy hd q=>by
 unfold Dh at hf;split at hf
 ·rename_i ds es;exact .inr (Ha.ok K F H [.tuple ds,.tuple es] [u,v] pr Q hf ⟨u,_,rfl,hx,v,_,rfl,hy,rfl⟩ hd q)
 ·exact .inl (ltP.ok K F H [x,y] [u,v] pr Q hf ⟨u,_,rfl,hx,v,_,rfl,hy,rfl⟩ hd q)
theorem yQ {X:Cx} (hu:X.A.units < cLine):OpR X (compareOp .Lt) (fun x y=>DO.r X.K [x,y]):=orR jD (yw hu)
end L2
end
section
namespace L2
open PySem PySem.Spec PyProof.Rows
section
variable {X:Cx} {x:Str} {p pos:Pos} {e:Expr} {es:List Expr} {t:TA} {f:Addr} {fd:FuncData} {ps:List Str} {sp:Sp} {k m:Nat} {r:List V->Hp->VK->Prop} {id T:String}
theorem eVx (i:Nat) (a:X.N[i]?=some x:=by exact rfl) (b:Vis X.env.scope x:=by exact .inl rfl) (c:(x==("__debug__" : Str))=false:=by exact rfl) (d:(x==("__classdict__" : Str))=false:=by exact rfl):JE X (.Name x pos) (ug i):=CO i a b c d
theorem eVy (i:Nat) (a:X.N[i]?=some x:=by exact rfl) (b:Vis X.env.scope x:=by exact .inr (.inl rfl)) (c:(x==("__debug__" : Str))=false:=by exact rfl) (d:(x==("__classdict__" : Str))=false:=by exact rfl):JE X (.Name x pos) (ug i):=CO i a b c d
theorem eCl (F:ba X.prog X.w X.K X.mg X.base CX0 k f fd ps sp) (hr:cQ m X.A) (hm:X.mg x=some (.ref f)) (hk:PySem.W.keepIn X.K (.ref f)=true) (hb:Binds X.K fd ps []) (ha:JA X (e :: es) t)
  (a:k<=m:=by omega) (b:Gl X x:=by exact rfl) (h1:PySem.W.isStarred e=false:=by exact rfl) (h2:es.all (fun e=>!PySem.W.isStarred e)=true:=by exact rfl) (c:(x==("__debug__" : Str))=false:=by exact rfl):JE X (.Call (.Name x p) (e :: es) [] pos) (p9 sp [] E0 t) :=
 BU F (hr.mono a) b hm hk hb .nil yL ha h1 h2 c
theorem eBs (hc:aQ X (.builtin id) r) (hm:X.mg x=none) (ha:JA X (e :: es) t) (a:Gl X x:=by exact rfl) (hv:bootBuiltins x=some (.builtin id):=by decide +kernel) (h1:PySem.W.isStarred e=false:=by exact rfl) (h2:es.all (fun e=>!PySem.W.isStarred e)=true:=by exact rfl)
  (hn:x ≠ "__name__" := by decide) (c:(x==("__debug__" : Str))=false:=by exact rfl):JE X (.Call (.Name x p) (e :: es) [] pos) (tCB r t):=eB hc a hm hv ha h1 h2 hn c
theorem eTs (hc:aQ X (.type T) r) (hm:X.mg x=none) (ha:JA X (e :: es) t) (a:Gl X x:=by exact rfl) (hv:bootBuiltins x=some (.type T):=by decide +kernel) (h1:PySem.W.isStarred e=false:=by exact rfl) (h2:es.all (fun e=>!PySem.W.isStarred e)=true:=by exact rfl)
  (hn:x ≠ "__name__" := by decide) (c:(x==("__debug__" : Str))=false:=by exact rfl):JE X (.Call (.Name x p) (e :: es) [] pos) (tCB r t):=eTy hc a hm hv ha h1 h2 hn c
end
theorem Fun.okX {P:Program} {w:World} {K:Fg} {mg:Str->Option Value} {base:Heap} {x qual:Str} {st:Stmt} {f:Addr} {fd:FuncData} {N ps:List Str} {k:Nat} {b:XS} {gd:List PyData} {ga:Nat->V} {ms:List PM} {rd:TS}
  (F:Fun K x qual st f fd) (S:af N ps (aa st)) (hg:∀ g d,gd[g]?=some d->∀ F H,Dm K F H d (ga g)) (e:rd=rS K ga b)
  (j:∀ {cdv:Value} {A:Around} {outer:List Env} {s:Shared} {H:Hp} {E:XK},cQ k (A.deeper (envOfC qual (aa st) s.heap.objs.size f cdv))->JSs (vm CX0 P w K mg base N qual (aa st) f cdv A outer s H E).nox (bQ st) rd)
  (hl:ms.length<=N.length:=by decide) (hp:ms.length=ps.length:=by exact rfl):ba P w K mg base CX0 (k+1) f fd ps (bH (b7 gd ms N.length b) K) :=
 F.okJ S (fun vs H Q E h=>(ud h).trans hp) fun cdv A outer s H vs Q E hr h=>⟨rd,j hr,by rw [e];exact xF (N:=N) hg h hl⟩
end L2
end
section
namespace L2
open PySem PySem.Spec PyProof.Rows PySem.W
noncomputable def kyS:KS where
 κ:=Ky
 dft:=(0,0, "")
 dec:=inferInstance
 lt:=ltK
 irr:=iY
 tr:=o8
 tot:=lC
 T:=KyT
 same:=KyT.same
 Hh:=KyH
 key:=fun I r h=>I.key r h
 ask:=fun {P w A E s u v a b C} hu hx hy h=>by
  obtain ⟨x,t1,t2,t3,rfl,gx⟩:=hx;obtain ⟨y,u1,u2,u3,rfl,gy⟩:=hy;exact Bz gx gy h
 kd:=fun {P w A E s us Q} hu h0 hq=>by
  obtain ⟨fs,t1,t2,t3⟩:=By hu;refine kat_kind (T:=.type "int") t1 (by rw [t2];exact h0) (fun v hv=>?_) rfl hq;obtain ⟨i,t,rfl⟩:=t3 v hv;exact Looks.of_pure rfl
 of:=GW
 ofT:=fun {K F H d u k} e h=>by
  unfold GW at e;split at e
  ·cases e;obtain ⟨t,ys,rfl,sq,_,u1,r1,rfl,e1,u2,r2,rfl,e2,u3,r3,rfl,e3,rfl⟩:=h;have e1:u1=_:=e1;have e2:u2=_:=e2;have e3:u3=_:=e3.1;subst e1 e2 e3;exact ⟨t,rfl,sq⟩
  ·cases e
end L2
end
section
namespace L2
open PySem PySem.Spec PyProof.Rows
structure Fa (K:Fg) (mg:Str->Option Value) (x:Str) (st:Stmt) (ps:List Str) (a:Addr×FuncData):Prop where
 F:Fun K x x st a.1 a.2
 c:∀ us:List Value,us.length=ps.length->bindArgs a.2 ⟨us,[]⟩=pure (ps.zip us)
 m:mg x=some (.ref a.1)
section
variable {K:Fg} {mg:Str->Option Value} {x:Str} {st:Stmt} {ps:List Str} {a:Addr×FuncData} {h:Heap} {f:Addr} {od an:Option Addr} {sl:Array (Option Value)} {oc kV dc pm cd ct:Value}
theorem Fa.b (D:Fa K mg x st ps a):Binds K a.2 ps []:=.all D.c
noncomputable def y7 (K:Fg) (mg:Str->Option Value):List (Str×Stmt×List Str)->Prop
 | []=>True
 | (x,st,ps) :: r=>(∃ a,Fa K mg x st ps a)/\y7 K mg r
theorem DD {r:List (Str×Stmt×List Str)} (X:K.In h) (G:h.Ns mainGlobals mg) (a:PySem.W.nsIn K mainGlobals x=some (some (.ref f))) (l:K.lookup f=some ⟨oc,od,.func (PySem.W.fnOf x x (gG st) (bQ st) (aa st) .none kV dc pm an cd ct),sl⟩) (c:PySem.W.codeIn K cd x=true) (k:PySem.W.keepIn K (.ref f)=true)
  (hb:∀ (kV dc pm:Value) (an:Option Addr) (cd ct:Value) (us:List Value),us.length=ps.length->bindArgs (PySem.W.fnOf x x (gG st) (bQ st) (aa st) .none kV dc pm an cd ct) ⟨us,[]⟩=pure (ps.zip us)) (hr:y7 K mg r):y7 K mg ((x,st,ps) :: r) :=
 ⟨⟨(f,_),zv l c k,hb _ _ _ _ _ _,PySem.W.mg_of X G a⟩,hr⟩
theorem AX (a0:Addr×FuncData):∀ {l:List (Str×Stmt×List Str)},y7 K mg l->∃ f:Nat->Addr×FuncData,∀ i {x st ps},l[i]?=some (x,st,ps)->Fa K mg x st ps (f i)
 | [],_=>⟨fun _=>a0,fun i x st ps h=>by cases h⟩
 | (y,st,ps) :: r,⟨⟨a,ha⟩,hr⟩=>by
  obtain ⟨f,hf⟩:=AX a0 hr;refine ⟨fun i=>i.casesOn a f,fun i x st ps h=>?_⟩;cases i with
  | zero=>cases h;exact ha
  | succ i=>exact hf i h
theorem HW {e:Str×Stmt×List Str} {l:List (Str×Stmt×List Str)} (D:y7 K mg (e :: l)):∃ f:Nat->Addr×FuncData,∀ i {x st ps},(e :: l)[i]?=some (x,st,ps)->Fa K mg x st ps (f i):=by
 obtain ⟨y,st,ps⟩:=e;have ⟨⟨a,_⟩,_⟩:=D;exact AX a D
end
theorem us1 {P:List Value->Prop} (h:∀ a,P [a]):∀ us:List Value,us.length=1->P us
 | [a],_=>h a
theorem us2 {P:List Value->Prop} (h:∀ a b,P [a,b]):∀ us:List Value,us.length=2->P us
 | [a,b],_=>h a b
theorem us3 {P:List Value->Prop} (h:∀ a b c,P [a,b,c]):∀ us:List Value,us.length=3->P us
 | [a,b,c],_=>h a b c
theorem us4 {P:List Value->Prop} (h:∀ a b c d,P [a,b,c,d]):∀ us:List Value,us.length=4->P us
 | [a,b,c,d],_=>h a b c d
theorem scm {N P:List Str} {sc:Scope} (a:sc.kind=.function:=by exact rfl) (b:sc.isCoroutine=false:=by exact rfl) (c:sc.isGenerator=false:=by exact rfl) (d:N.Nodup:=by decide +kernel) (e:N.take P.length=P:=by exact rfl) (f:∀ x∈P,sc.names.lookup x=some .local\/sc.names.lookup x=some .cell:=by decide +kernel) (g:∀ y∈sc.names,y.2≠.free:=by decide +kernel):af N P sc:=⟨a,b,c,d,e,f,g⟩
theorem Fa.ok {P:Program} {w:World} {K:Fg} {mg:Str->Option Value} {base:Heap} {x:Str} {st:Stmt} {a:Addr×FuncData} {N ps:List Str} {k:Nat} {b:XS} {gd:List PyData} {ga:Nat->V} {ms:List PM}
  (D:Fa K mg x st ps a) (S:af N ps (aa st)) (hg:∀ g d,gd[g]?=some d->∀ F H,Dm K F H d (ga g))
  (j:∀ {cdv:Value} {A:Around} {outer:List Env} {s:Shared} {H:Hp} {E:XK},cQ k (A.deeper (envOfC x (aa st) s.heap.objs.size a.1 cdv))->JSs (vm CX0 P w K mg base N x (aa st) a.1 cdv A outer s H E).nox (bQ st) (rS K ga b))
  (hl:ms.length<=N.length:=by decide) (hp:ms.length=ps.length:=by exact rfl):ba P w K mg base CX0 (k+1) a.1 a.2 ps (bH (b7 gd ms N.length b) K) :=
 D.F.okX S hg rfl j hl hp
section
variable {X:Cx} {x:Str} {p p2 pos pos':Pos} {e a b:Expr} {es:List Expr} {t:TA} {te ta tb:TE} {ps:List Str} {sp:Sp} {k m i:Nat} {r:List V->Hp->VK->Prop} {T:String} {st:Stmt} {q:Addr×FuncData}
theorem eCx (F:ba X.prog X.w X.K X.mg X.base CX0 k q.1 q.2 ps sp) (hr:cQ m X.A) (D:Fa X.K X.mg x st ps q) (ha:JA X (e :: es) t)
  (a:k<=m:=by omega) (b:Gl X x:=by exact rfl) (h1:PySem.W.isStarred e=false:=by exact rfl) (h2:es.all (fun e=>!PySem.W.isStarred e)=true:=by exact rfl) (c:(x==("__debug__" : Str))=false:=by exact rfl):JE X (.Call (.Name x p) (e :: es) [] pos) (p9 sp [] E0 t) :=
 BU F (hr.mono a) b D.m D.F.kp D.b .nil yL ha h1 h2 c
theorem eAx (ha:JE X e te) (hr:JA X es t) (h:PySem.W.isStarred e=false:=by exact rfl):JA X (e :: es) (cF te t):=eA ha hr h
theorem eIy (ha:JE X a ta) (hb:JE X b tb) (hs:kR b:=by exact fun _ _=>rfl):JE X (.Subscript a b pos) (tOp (fun x y=>ixP.r X.K [x,y]) ta tb):=eIx bV ha hb hs
theorem eSx (hN:X.N.Nodup) (i:Nat) (he:JE X e te) (hi:X.N[i]?=some x:=by exact rfl) (hx:Loc X.env.scope x:=by exact .inl rfl) (hs:swapsWith e (some (.Name x pos')) pos.line X.env=pure false:=by exact rfl) (hf:X.fn x=true\/X.env.scope.names.lookup x=some .local:=by exact .inl rfl) :
  JS X (.Assign [.Name x pos'] e pos) (tZ te (de i)):=GD he hN hi hx hs hf
theorem eSy (hN:X.N.Nodup) (i:Nat) (he:JE X e te) (hi:X.N[i]?=some x:=by exact rfl) (hx:Loc X.env.scope x:=by exact .inr rfl) (hs:swapsWith e (some (.Name x pos')) pos.line X.env=pure false:=by exact rfl) (hf:X.fn x=true\/X.env.scope.names.lookup x=some .local:=by exact .inl rfl) :
  JS X (.Assign [.Name x pos'] e pos) (tZ te (de i)):=GD he hN hi hx hs hf
theorem eGx (hN:X.N.Nodup) (i:Nat) (hi:X.N[i]?=some x:=by exact rfl) (hx:Loc X.env.scope x:=by exact .inl rfl) (hf:X.fn x=true\/X.env.scope.names.lookup x=some .local:=by exact .inl rfl):JG X (.Name x pos) (de i):=eGN hN hi hx hf
theorem eGy (hN:X.N.Nodup) (i:Nat) (hi:X.N[i]?=some x:=by exact rfl) (hx:Loc X.env.scope x:=by exact .inr rfl) (hf:X.fn x=true\/X.env.scope.names.lookup x=some .local:=by exact .inl rfl):JG X (.Name x pos) (de i):=eGN hN hi hx hf
theorem eTx {op:CmpOp} {r:R2} (ho:OpR X (compareOp op) r) (ha:JE X a ta) (hb:JE X b tb) (hm:behindInMarks op b=false:=by exact fO _):JT X (.Compare a [op] [b] pos) (oP (tOp r ta tb)):=k0 ho ha hb hm
theorem eUx (h:JE X e te) (he:∀ whole,isTrue e X.env whole=(do let v<-whole;standAt e.pos;holding [v] (truthy v)):=by exact fun _=>rfl):JT X e (tB te):=Ii h he
theorem eIz (hm:X.mg "isinstance" = none) (ha:JE X e te) (hz:X.mg (Str.ofString T)=none) (hg:Gl X "isinstance" := by exact rfl) (hs:PySem.W.isStarred e=false:=by exact rfl)
  (h1:Gl X (Str.ofString T):=by exact rfl) (h2:bootBuiltins (Str.ofString T)=some (.type T):=by decide +kernel) (h3:Str.ofString T ≠ "__name__" := by decide) (h4:(Str.ofString T==("__debug__" : Str))=false:=by exact rfl):JE X (.Call (.Name "isinstance" p) [e,.Name (Str.ofString T) p2] [] pos) (tCB ((kN T).r X.K) (cF te kM)) :=
 HJ hg hm ha hs (F6 h1 hz h2 rfl h3 h4)
theorem eFx {iter tg:Expr} {body:List Stmt} {wi:TI} {g:TG} {tb:TS} (hi:JI X tg iter wi) (hg:JG X tg g) (hb:JSs X body tb) (hp:PassesOwn (model X.prog X.w) X.A X.env X.xe:=by exact PassesOwn.never) (hc:X.calm=true:=by exact rfl) (hs:∀ x,foldedSetIterable iter X.env x=pure x:=by exact fun _=>rfl):JS X (.For tg iter body [] pos) (As wi g tb):=Hl hi hg hb hp hc hs
theorem eUy (ha:JE X a ta):JE X (.UnaryOp .USub a pos) (tCB (GV.r X.K) (cF ta kM)):=eUn zG ha
theorem eKx {elt iter:Expr} {px:Pos} {ifs:List Expr} {scope:Scope} {wi:TI} {tt:TT} {js:List Nat} (ys:List Str) (hi:JI X (.Name x px) iter wi) (ht:JTs X (x :: ys) scope ifs tt) (he:JC X (x :: ys) scope elt te) (B:iO X scope x) (cap:fi X scope ys js)
  (hc:X.calm=true:=by exact rfl) (nd:(x :: ys).Nodup:=by decide +kernel) (hs:∀ x,foldedSetIterable iter X.env x=pure x:=by exact fun _=>rfl):JE X (.ListComp elt [⟨.Name x px,iter,ifs,0⟩] scope pos) (uO js wi tt te):=Fp ys hi ht he hc B nd cap hs
end
noncomputable abbrev vr (i:Nat):XE:=.var i
noncomputable abbrev ci (i:Int):XE:=.cst (.i i)
noncomputable abbrev cs (x:String) (h:(Str.ofString x).length<=sizeLine:=by decide +kernel):XE:=.cst (.s x h (tV x))
noncomputable abbrev p1 (p:Prm) (a:XE):XE:=.prm p (.cons a .nil)
noncomputable abbrev p2 (p:Prm) (a b:XE):XE:=.prm p (.cons a (.cons b .nil))
end L2
end
section
namespace K08
open PySem PySem.Spec PyProof.Rows L2
noncomputable def top (i:Nat):Stmt:=PySem.Challenge.pw_webshapes_k08_nodes_and_ends.main.body.getD i (.Pass ⟨0,0,0,0⟩)
noncomputable abbrev bh:Stmt:=top 6
noncomputable abbrev fV:Stmt:=top 7
noncomputable abbrev eR:Stmt:=top 8
noncomputable abbrev dG:Stmt:=top 9
noncomputable abbrev gE:Stmt:=top 10
noncomputable abbrev fS:Stmt:=top 11
noncomputable abbrev gh:Stmt:=top 12
noncomputable abbrev eU:Stmt:=top 13
noncomputable abbrev eJ:Stmt:=top 14
noncomputable abbrev gO:Stmt:=top 16
noncomputable abbrev eZ:Stmt:=top 17
noncomputable abbrev bu:Stmt:=top 18
noncomputable abbrev cf:Stmt:=top 21
noncomputable abbrev gH:Stmt:=top 22
noncomputable abbrev bO:Stmt:=top 25
noncomputable abbrev iQ:Stmt:=top 26
noncomputable abbrev bq:Stmt:=top 27
noncomputable abbrev fB:Stmt:=top 28
noncomputable abbrev cm:Stmt:=top 29
noncomputable abbrev qb:Stmt:=top 31
noncomputable abbrev me:Stmt:=top 32
noncomputable abbrev nh:Stmt:=top 33
noncomputable abbrev ka:Stmt:=top 34
noncomputable abbrev mG:Stmt:=top 35
noncomputable abbrev kz:Stmt:=top 36
noncomputable abbrev mx:Stmt:=top 37
noncomputable abbrev ix:Stmt:=top 38
noncomputable abbrev iS:Stmt:=top 39
noncomputable abbrev jI:Stmt:=top 40
noncomputable abbrev c8:Stmt:=top 41
noncomputable abbrev gL:Stmt:=top 42
noncomputable def dfs:List (Str×Stmt×List Str):=[("are_letters", bh,["thing", "fewest"]),("is_name", fV,["thing"]),("is_whole", eR,["thing"]),("is_number", dG,["thing"]),("is_said", gE,["thing"]),("is_node", fS,["thing"]),("kind_of", gh,["node"]),("node_key", eU,["node"]),("in_order", eJ,["nodes"]),("is_fact", gO,["thing"]),("fact_key", eZ,["fact"]),("facts_in_order", bu,["facts"]),("is_backward", cf,["step"]),("bond_of", gH,["step"]),("are_facts", bO,["things"]),("web_of", iQ,["facts"]),("nodes_of", bq,["web"]),("ends", fB,["web", "node", "step"]),("bonds_of", cm,["web", "node"]),("_law_pen", qb,["_law_script"]),("_law_take", me,["_law_pen_here", "_law_most"]),("_law_word", nh,["_law_pen_here", "_law_many"]),("_law_words", ka,["_law_pen_here", "_law_most"]),("_law_node", mG,["_law_pen_here", "_law_things"]),("_law_facts", kz,["_law_pen_here", "_law_things", "_law_bonds"]),("_law_sort", mx,["_law_node_here"]),("_law_before", ix,["_law_one", "_law_other"]),("_law_laid", iS,["_law_nodes"]),("_law_alike", jI,["_law_found", "_law_due"]),("_law_right", c8,["_law_web", "_law_facts_here", "_law_node_here", "_law_bond"]),("law", gL,["_law_script"])]
structure Adr where
 f:Nat->Addr×FuncData
 Cv:Tok
 ee:Tok
 kC:Tok
 gY:Tok
structure Txt (K:Fg) (mg:Str->Option Value) (t:Adr):Prop where
 d:∀ i {x st ps},dfs[i]?=some (x,st,ps)->Fa K mg x st ps (t.f i)
 z_abs:mg "abs" = none
 z_all:mg "all" = none
 z_bool:mg "bool" = none
 z_int:mg "int" = none
 z_isinstance:mg "isinstance" = none
 z_len:mg "len" = none
 z_list:mg "list" = none
 z_range:mg "range" = none
 z_set:mg "set" = none
 z_sorted:mg "sorted" = none
 z_str:mg "str" = none
 z_tuple:mg "tuple" = none
 z_zip:mg "zip" = none
 g_BACK:mg "BACK" = some (Value.str "^" t.Cv)
 g_GREATEST_NUMBER:mg "GREATEST_NUMBER" = some (Value.int 999999999999999999999999999999 t.ee)
 g_MOST_FACTS:mg "MOST_FACTS" = some (Value.int 400 t.kC)
 g_MOST_LETTERS:mg "MOST_LETTERS" = some (Value.int 8 t.gY)
theorem gW:af ["thing", "fewest"] ["thing", "fewest"] (aa bh):=scm
theorem nt:af ["thing"] ["thing"] (aa fV):=scm
theorem lN:af ["thing"] ["thing"] (aa eR):=scm
theorem ki:af ["thing"] ["thing"] (aa dG):=scm
theorem nL:af ["thing"] ["thing"] (aa gE):=scm
theorem n4:af ["thing"] ["thing"] (aa fS):=scm
theorem n6:af ["node"] ["node"] (aa gh):=scm
theorem gK:af ["node", "kind"] ["node"] (aa eU):=scm
theorem cX:af ["nodes", "once", "node"] ["nodes"] (aa eJ):=scm
theorem og:af ["thing"] ["thing"] (aa gO):=scm
theorem lg:af ["fact"] ["fact"] (aa eZ):=scm
theorem aR:af ["facts", "once", "fact"] ["facts"] (aa bu):=scm
theorem gR:af ["step"] ["step"] (aa cf):=scm
theorem nP:af ["step"] ["step"] (aa gH):=scm
theorem j7:af ["things"] ["things"] (aa bO):=scm
theorem jv:af ["facts", "web"] ["facts"] (aa iQ):=scm
theorem ly:af ["web"] ["web"] (aa bq):=scm
theorem sd:af ["web", "node", "step", "bond"] ["web", "node", "step"] (aa fB):=scm
theorem k6:af ["web", "node"] ["web", "node"] (aa cm):=scm
theorem zJ:af ["_law_script"] ["_law_script"] (aa qb):=scm
theorem cu:af ["_law_pen_here", "_law_most", "_law_at", "_law_cell", "_law_n", "_law_found"] ["_law_pen_here", "_law_most"] (aa me):=scm
theorem kW:af ["_law_pen_here", "_law_many", "_law_word_here"] ["_law_pen_here", "_law_many"] (aa nh):=scm
theorem fE:af ["_law_pen_here", "_law_most", "_law_words_here", "_law_k", "_law_word_here"] ["_law_pen_here", "_law_most"] (aa ka):=scm
theorem r8:af ["_law_pen_here", "_law_things", "_law_way"] ["_law_pen_here", "_law_things"] (aa mG):=scm
theorem cI:af ["_law_pen_here", "_law_things", "_law_bonds", "_law_many", "_law_facts_here", "_law_k", "_law_fact"] ["_law_pen_here", "_law_things", "_law_bonds"] (aa kz):=scm
theorem yd:af ["_law_node_here"] ["_law_node_here"] (aa mx):=scm
theorem qY:af ["_law_one", "_law_other"] ["_law_one", "_law_other"] (aa ix):=scm
theorem k9:af ["_law_nodes", "_law_laid_here", "_law_node_here"] ["_law_nodes"] (aa iS):=scm
theorem iV:af ["_law_found", "_law_due", "_law_one", "_law_other"] ["_law_found", "_law_due"] (aa jI):=scm
theorem bT:af ["_law_web", "_law_facts_here", "_law_node_here", "_law_bond", "_law_forth", "_law_back", "_law_step", "_law_due", "_law_turn", "_law_found"] ["_law_web", "_law_facts_here", "_law_node_here", "_law_bond"] (aa c8):=scm
theorem bD:af ["_law_script", "_law_pen_here", "_law_things", "_law_bonds", "_law_facts_here", "_law_web", "_law_due", "_law_turn", "_law_found", "_law_node_here", "_law_bond", "_law_bonds_due"] ["_law_script"] (aa gL):=scm
noncomputable def gds:List PyData:=[]
noncomputable def gav (t:Adr):Nat->V:=fun g=>([]:List V)[g]?.getD .non
theorem aJ {K:Fg} {mg:Str->Option Value} {t:Adr} (T:Txt K mg t):∀ g d,gds[g]?=some d->∀ F H,Dm K F H d (gav t g):=by
 intro g d h F H;cases h
noncomputable def cO:XS :=
 (.seq (.ifs (.or (.not (.tst (p1 (kN "str") (vr 0)))) (.not (.tst (.chn leP leP (vr 1) (p1 kE (vr 0)) (ci 8))))) (.ret (.cst (.b false))) .skip)
  (.ret (p1 CQ (.cmp [] (.str (vr 0)) .yes (.chn leP leP (cs "a") (vr 0) (cs "z"))))))
noncomputable def aV:Fn:=b7 gds [.dat,.dat] 2 cO
noncomputable def gX (K:Fg):Sp:=bH aV K
noncomputable def iy:XS :=
 (.ret (.call aV (.cons (vr 0) (.cons (ci 1) .nil))))
noncomputable def bz:Fn:=b7 gds [.dat] 1 iy
noncomputable def nv (K:Fg):Sp:=bH bz K
noncomputable def fM:XS :=
 (.ret (.sf (p1 (kN "int") (vr 0)) (.zc (p1 (kN "bool") (vr 0)))))
noncomputable def c0:Fn:=b7 gds [.dat] 1 fM
noncomputable def kT (K:Fg):Sp:=bH c0 K
noncomputable def eM:XS :=
 (.ret (.sf (.call c0 (.cons (vr 0) .nil)) (p2 leP (p1 CS (vr 0)) (ci 999999999999999999999999999999))))
noncomputable def cC:Fn:=b7 gds [.dat] 1 eM
noncomputable def j0 (K:Fg):Sp:=bH cC K
noncomputable def iA:XS :=
 (.ret (.sf (p1 (kN "tuple") (vr 0)) (.sf (p2 eqP (p1 kE (vr 0)) (ci 1)) (.call aV (.cons (p2 ixP (vr 0) (ci 0)) (.cons (ci 0) .nil))))))
noncomputable def eH:Fn:=b7 gds [.dat] 1 iA
noncomputable def nN (K:Fg):Sp:=bH eH K
noncomputable def iH:XS :=
 (.ret (.orv (.call bz (.cons (vr 0) .nil)) (.orv (.call cC (.cons (vr 0) .nil)) (.call eH (.cons (vr 0) .nil)))))
noncomputable def dR:Fn:=b7 gds [.dat] 1 iH
noncomputable def oa (K:Fg):Sp:=bH dR K
noncomputable def iu:XS :=
 (.seq (.ifs (.tst (p1 (kN "str") (vr 0))) (.ret (cs "thing")) .skip)
  (.seq (.ifs (.tst (p1 (kN "tuple") (vr 0))) (.ret (cs "said")) .skip)
  (.ret (cs "number"))))
noncomputable def dW:Fn:=b7 gds [.dat] 1 iu
noncomputable def ny (K:Fg):Sp:=bH dW K
noncomputable def gb:XS :=
 (.seq (.dg 1 (.call dW (.cons (vr 0) .nil)))
  (.seq (.ifs (.tst (p2 eqP (vr 1) (cs "number"))) (.ret (.tup (.cons (ci 0) (.cons (vr 0) (.cons (cs "") .nil))))) .skip)
  (.seq (.ifs (.tst (p2 eqP (vr 1) (cs "said"))) (.ret (.tup (.cons (ci 1) (.cons (ci 0) (.cons (p2 ixP (vr 0) (ci 0)) .nil))))) .skip)
  (.ret (.tup (.cons (ci 2) (.cons (ci 0) (.cons (vr 0) .nil))))))))
noncomputable def bo:Fn:=b7 gds [.dat] 2 gb
noncomputable def lL (K:Fg):Sp:=bH bo K
noncomputable def fY:XS :=
 (.seq (.lD 1 (.prm zp .nil))
  (.seq (.fr 2 (.lst (vr 0)) (.sto lB 1 (vr 2) (.cst (.b true))))
  (.ret (p1 (Sg.jJ kyS bo rfl) (vr 1)))))
noncomputable def cT:Fn:=b7 gds [.dat] 3 fY
noncomputable def k7 (K:Fg):Sp:=bH cT K
noncomputable def iz:XS :=
 (.seq (.ifs (.or (.not (.tst (p1 (kN "tuple") (vr 0)))) (.tst (p2 neP (p1 kE (vr 0)) (ci 3)))) (.ret (.cst (.b false))) .skip)
  (.ret (.sf (.call bz (.cons (p2 ixP (vr 0) (ci 0)) .nil)) (.sf (.call bz (.cons (p2 ixP (vr 0) (ci 1)) .nil)) (.call dR (.cons (p2 ixP (vr 0) (ci 2)) .nil))))))
noncomputable def eD:Fn:=b7 gds [.dat] 1 iz
noncomputable def nJ (K:Fg):Sp:=bH eD K
noncomputable def gc:XS :=
 (.ret (.tup (.cons (p2 ixP (vr 0) (ci 0)) (.cons (p2 ixP (vr 0) (ci 1)) (.cons (.call bo (.cons (p2 ixP (vr 0) (ci 2)) .nil)) .nil)))))
noncomputable def bL:Fn:=b7 gds [.dat] 1 gc
noncomputable def lX (K:Fg):Sp:=bH bL K
noncomputable def bx:XS :=
 (.seq (.lD 1 (.prm zp .nil))
  (.seq (.fr 2 (.lst (vr 0)) (.sto lB 1 (vr 2) (.cst (.b true))))
  (.ret (p1 (Sg.jJ fyS bL rfl) (vr 1)))))
noncomputable def aS:Fn:=b7 gds [.dat] 3 bx
noncomputable def d8 (K:Fg):Sp:=bH aS K
noncomputable def cR:XS :=
 (.ret (.met xc (vr 0) (.cons (cs "^") .nil)))
noncomputable def aU:Fn:=b7 gds [.dat] 1 cR
noncomputable def g8 (K:Fg):Sp:=bH aU K
noncomputable def eE:XS :=
 (.ret (.ifx (.tst (.call aU (.cons (vr 0) .nil))) (p2 Hu (vr 0) (ci 1)) (vr 0)))
noncomputable def cH:Fn:=b7 gds [.dat] 1 eE
noncomputable def nR (K:Fg):Sp:=bH cH K
noncomputable def fb:XS :=
 (.ret (p1 CQ (.cmp [] (.lst (vr 0)) .yes (.call eD (.cons (vr 0) .nil)))))
noncomputable def cv:Fn:=b7 gds [.dat] 1 fb
noncomputable def ku (K:Fg):Sp:=bH cv K
noncomputable def jZ:XS :=
 (.seq (.ifs (.or (.not (.tst (p1 Ct (vr 0)))) (.not (.tst (.call cv (.cons (vr 0) .nil))))) .nev .skip)
  (.seq (.dg 1 (p1 wB (.call aS (.cons (vr 0) .nil))))
  (.seq (.ifs (.tst (p2 gtP (p1 kE (vr 1)) (ci 400))) .nev .skip)
  (.ret (vr 1)))))
noncomputable def fR:Fn:=b7 gds [.dat] 2 jZ
noncomputable def rg (K:Fg):Sp:=bH fR K
noncomputable def gu:XS :=
 (.ret (.call cT (.cons (p2 jt (.cmp [] (.tup (vr 0)) .yes (p2 ixP (vr 0) (ci 0))) (.cmp [] (.tup (vr 0)) .yes (p2 ixP (vr 0) (ci 2)))) .nil)))
noncomputable def cU:Fn:=b7 gds [.dat] 1 gu
noncomputable def lA (K:Fg):Sp:=bH cU K
noncomputable def k5:XS :=
 (.seq (.dg 3 (.call cH (.cons (vr 2) .nil)))
  (.seq (.ifs (.tst (.call aU (.cons (vr 2) .nil))) (.ret (.cmp [3,1] (.tup (vr 0)) (.and (.tst (p2 eqP (p2 ixP (vr 0) (ci 1)) (vr 1))) (.tst (p2 eqP (p2 ixP (vr 0) (ci 2)) (vr 2)))) (p2 ixP (vr 0) (ci 0)))) .skip)
  (.ret (.cmp [1,3] (.tup (vr 0)) (.and (.tst (p2 eqP (p2 ixP (vr 0) (ci 0)) (vr 1))) (.tst (p2 eqP (p2 ixP (vr 0) (ci 1)) (vr 2)))) (p2 ixP (vr 0) (ci 2))))))
noncomputable def fN:Fn:=b7 gds [.dat,.dat,.dat] 4 k5
noncomputable def xH (K:Fg):Sp:=bH fN K
noncomputable def gm:XS :=
 (.ret (p1 rC (.cmp [1] (.tup (vr 0)) (.tst (p2 eqP (p2 ixP (vr 0) (ci 0)) (vr 1))) (p2 ixP (vr 0) (ci 1)))))
noncomputable def bM:Fn:=b7 gds [.dat,.dat] 2 gm
noncomputable def lG (K:Fg):Sp:=bH bM K
noncomputable def zN:XS :=
 (.ret (.dsp (.cons (cs "script") (vr 0) (.cons (cs "at") (ci 0) (.cons (cs "left") (ci 0) .nil)))))
noncomputable def qw:Fn:=b7 gds [.dat] 1 zN
noncomputable def B3 (K:Fg):Sp:=bH qw K
noncomputable def rm:XS :=
 (.seq (.dg 2 (p2 iW (vr 0) (cs "at")))
  (.seq (.ifs (.tst (p2 eqP (p2 iW (vr 0) (cs "left")) (ci 0))) (.seq (.sto lB 0 (cs "at") (p2 jt (vr 2) (ci 1)))
  (.seq (.dg 3 (ci 1733))
  (.seq (.ifs (.tst (p2 gtP (p1 kE (p2 iW (vr 0) (cs "script"))) (ci 0))) (.dg 3 (p2 ixP (p2 iW (vr 0) (cs "script")) (p2 wa (vr 2) (p1 kE (p2 iW (vr 0) (cs "script")))))) .skip)
  (.seq (.ifs (.or (.tst (p2 geP (vr 2) (p1 kE (p2 iW (vr 0) (cs "script"))))) (.tst (p2 ltP (p1 CS (vr 3)) (p2 FL (ci 10) (ci 18))))) (.seq (.dg 3 (p2 jt (p2 jt (p2 wa (vr 3) (ci 2147483477)) (p2 vV (ci 122949829) (vr 2))) (ci 811)))
  (.seq (.dg 4 (p2 wa (p2 vV (vr 3) (ci 16807)) (ci 2147483647)))
  (.seq (.dg 4 (p2 wa (p2 jt (p2 jt (p2 vV (vr 4) (vr 4)) (p2 vV (ci 2503) (vr 4))) (p2 vV (ci 32452883) (vr 2))) (ci 2147483587)))
  (.ret (p2 wa (p2 yS (p2 wa (p2 vV (vr 4) (ci 48271)) (ci 2147483563)) (ci 29)) (vr 1)))))) .skip)
  (.sto lB 0 (cs "left") (p1 CS (vr 3))))))) .skip)
  (.seq (.dg 5 (p2 wa (p2 iW (vr 0) (cs "left")) (vr 1)))
  (.seq (.sto lB 0 (cs "left") (p2 yS (p2 iW (vr 0) (cs "left")) (vr 1)))
  (.ret (vr 5))))))
noncomputable def ay:Fn:=b7 gds [.ino,.dat] 6 rm
noncomputable def yr (K:Fg):Sp:=bH ay K
noncomputable def qE:XS :=
 (.seq (.dg 2 (p2 ixP (.lst (.cons (cs "") (.cons (cs "") (.cons (cs "") (.cons (p2 ixP (.lst (.cons (cs "any") (.cons (cs "keeps") (.cons (cs "least") (.cons (cs "is") (.cons (cs "all") (.cons (cs "many") .nil))))))) (.call ay (.cons (vr 0) (.cons (ci 6) .nil)))) .nil))))) (.call ay (.cons (vr 0) (.cons (ci 4) .nil)))))
  (.seq (.wh 100 (.tst (p2 ltP (p1 kE (vr 2)) (vr 1))) (.dg 2 (p2 jt (vr 2) (p2 ixP (cs "abcdefghijklmnopqrstuvwxyz") (.call ay (.cons (vr 0) (.cons (ci 26) .nil)))))))
  (.ret (p2 HX (vr 2) (vr 1)))))
noncomputable def jn:Fn:=b7 gds [.ino,.dat] 3 qE
noncomputable def xP (K:Fg):Sp:=bH jn K
noncomputable def mK:XS :=
 (.seq (.lD 2 (.lst .nil))
  (.seq (.fr 3 (.rng1 (.cons (p2 jt (ci 1) (.call ay (.cons (vr 0) (.cons (vr 1) .nil)))) .nil)) (.seq (.dg 4 (.call jn (.cons (vr 0) (.cons (p2 jt (ci 1) (.call ay (.cons (vr 0) (.cons (ci 8) .nil)))) .nil))))
  (.ifs (.tst (p2 gN (vr 4) (vr 2))) (.drop (.mtr Cq 2 (.cons (vr 4) .nil))) .skip)))
  (.ret (.tke 2))))
noncomputable def fG:Fn:=b7 gds [.ino,.dat] 5 mK
noncomputable def ua (K:Fg):Sp:=bH fG K
noncomputable def oZ:XS :=
 (.seq (.dg 2 (.call ay (.cons (vr 0) (.cons (ci 8) .nil))))
  (.seq (.ifs (.tst (p2 ltP (vr 2) (ci 5))) (.ret (p2 ixP (vr 1) (.call ay (.cons (vr 0) (.cons (p1 kE (vr 1)) .nil))))) .skip)
  (.seq (.ifs (.tst (p2 eqP (vr 2) (ci 5))) (.ret (p2 C6 (.call ay (.cons (vr 0) (.cons (ci 5) .nil))) (ci 2))) .skip)
  (.seq (.ifs (.tst (p2 eqP (vr 2) (ci 6))) (.ret (p2 vV (p2 ixP (.lst (.cons (ci 1) (.cons (p1 GV (ci 1)) .nil))) (.call ay (.cons (vr 0) (.cons (ci 2) .nil)))) (p2 C6 (p2 C6 (p2 FL (ci 10) (ci 30)) (ci 1)) (.call ay (.cons (vr 0) (.cons (ci 2) .nil)))))) .skip)
  (.ret (.tup (.cons (p2 ixP (.lst (.cons (cs "") (.cons (cs "a") (.cons (cs "is") (.cons (.call jn (.cons (vr 0) (.cons (ci 8) .nil))) .nil))))) (.call ay (.cons (vr 0) (.cons (ci 4) .nil)))) .nil)))))))
noncomputable def kK:Fn:=b7 gds [.ino,.dat] 3 oZ
noncomputable def yg (K:Fg):Sp:=bH kK K
noncomputable def m4:XS :=
 (.seq (.dg 3 (.call ay (.cons (vr 0) (.cons (ci 31) .nil))))
  (.seq (.ifs (.tst (p2 eqP (.call ay (.cons (vr 0) (.cons (ci 8) .nil))) (ci 0))) (.dg 3 (p2 jt (ci 30) (.call ay (.cons (vr 0) (.cons (ci 31) .nil))))) .skip)
  (.seq (.lD 4 (.lst .nil))
  (.seq (.fr 5 (.rng1 (.cons (vr 3) .nil)) (.seq (.dg 6 (.tup (.cons (p2 ixP (vr 1) (.call ay (.cons (vr 0) (.cons (p1 kE (vr 1)) .nil)))) (.cons (p2 ixP (vr 2) (.call ay (.cons (vr 0) (.cons (p1 kE (vr 2)) .nil)))) (.cons (.call kK (.cons (vr 0) (.cons (vr 1) .nil))) .nil)))))
  (.ifs (.tst (p2 gN (vr 6) (vr 4))) (.drop (.mtr Cq 4 (.cons (vr 6) .nil))) .skip)))
  (.ret (.tke 4))))))
noncomputable def jc:Fn:=b7 gds [.ino,.dat,.bor] 7 m4
noncomputable def u7 (K:Fg):Sp:=bH jc K
noncomputable def p5:XS :=
 (.seq (.ifs (.tst (p1 (kN "str") (vr 0))) (.ret (ci 2)) .skip)
  (.ret (p1 GY (p1 (kN "tuple") (vr 0)))))
noncomputable def cb:Fn:=b7 gds [.dat] 1 p5
noncomputable def yp (K:Fg):Sp:=bH cb K
noncomputable def jV:XS :=
 (.seq (.ifs (.tst (p2 neP (.call cb (.cons (vr 0) .nil)) (.call cb (.cons (vr 1) .nil)))) (.ret (p2 ltP (.call cb (.cons (vr 0) .nil)) (.call cb (.cons (vr 1) .nil)))) .skip)
  (.ret (p2 DO (vr 0) (vr 1))))
noncomputable def f7:Fn:=b7 gds [.dat,.dat] 2 jV
noncomputable def sh (K:Fg):Sp:=bH f7 K
noncomputable def qT:XS :=
 (.seq (.lD 1 (.lst .nil))
  (.seq (.fr 2 (.lst (vr 0)) (.ifs (.tst (p2 gN (vr 2) (vr 1))) (.drop (.mtr GO 1 (.cons (p1 kE (.cmp [2] (.lst (vr 1)) (.tst (.call f7 (.cons (vr 0) (.cons (vr 1) .nil)))) (vr 0))) (.cons (vr 2) .nil)))) .skip))
  (.ret (.tke 1))))
noncomputable def dX:Fn:=b7 gds [.dat] 3 qT
noncomputable def yt (K:Fg):Sp:=bH dX K
noncomputable def ni:XS :=
 (.seq (.ifs (.or (.not (.tst (p1 (kN "list") (vr 0)))) (.tst (p2 neP (vr 0) (vr 1)))) (.ret (.cst (.b false))) .skip)
  (.seq (.frT [2,3] (.zip (.cons (vr 0) (.cons (vr 1) .nil))) (.ifs (.or (.tst (p1 (kN "bool") (vr 2))) (.tst (p2 neP (.call cb (.cons (vr 2) .nil)) (.call cb (.cons (vr 3) .nil))))) (.ret (.cst (.b false))) .skip))
  (.ret (.cst (.b true)))))
noncomputable def fI:Fn:=b7 gds [.bor,.dat] 4 ni
noncomputable def uH (K:Fg):Sp:=bH fI K
noncomputable def mO:XS :=
 (.seq (.dg 4 (.call dX (.cons (.cmp [2,3] (.lst (vr 1)) (.and (.tst (p2 eqP (p2 ixP (vr 0) (ci 0)) (vr 1))) (.tst (p2 eqP (p2 ixP (vr 0) (ci 1)) (vr 2)))) (p2 ixP (vr 0) (ci 2))) .nil)))
  (.seq (.dg 5 (.call dX (.cons (.cmp [2,3] (.lst (vr 1)) (.and (.tst (p2 eqP (p2 ixP (vr 0) (ci 2)) (vr 1))) (.tst (p2 eqP (p2 ixP (vr 0) (ci 1)) (vr 2)))) (p2 ixP (vr 0) (ci 0))) .nil)))
  (.seq (.frT [6,7] (.lst (.lst (.cons (.tup (.cons (vr 3) (.cons (vr 4) .nil))) (.cons (.tup (.cons (p2 jt (cs "^") (vr 3)) (.cons (vr 5) .nil))) .nil)))) (.fr 8 (.rng1 (.cons (ci 2) .nil)) (.seq (.lD 9 (.call fN (.cons (vr 0) (.cons (vr 2) (.cons (vr 6) .nil)))))
  (.seq (.ifs (.not (.tst (.call fI (.cons (vr 9) (.cons (vr 7) .nil))))) (.ret (.cst (.b false))) .skip)
  (.drop (.mtr Cq 9 (.cons (vr 2) .nil)))))))
  (.ret (.cst (.b true))))))
noncomputable def iR:Fn:=b7 gds [.dat,.dat,.dat,.dat] 10 mO
noncomputable def uU (K:Fg):Sp:=bH iR K
noncomputable def vH:XS :=
 (.seq (.lD 1 (.call qw (.cons (vr 0) .nil)))
  (.seq (.dg 2 (.call fG (.cons (vr 1) (.cons (ci 9) .nil))))
  (.seq (.lD 3 (.call fG (.cons (vr 1) (.cons (ci 5) .nil))))
  (.seq (.ifs (.and (.tst (p2 eqP (.call ay (.cons (vr 1) (.cons (ci 3) .nil))) (ci 0))) (.tst (p2 gN (p2 ixP (vr 2) (ci 0)) (vr 3)))) (.sto zt 3 (ci 0) (p2 ixP (vr 2) (ci 0))) .skip)
  (.seq (.dg 4 (.call jc (.cons (vr 1) (.cons (vr 2) (.cons (vr 3) .nil)))))
  (.seq (.dg 5 (.call fR (.cons (vr 4) .nil)))
  (.seq (.dg 6 (.call dX (.cons (p2 jt (.cmp [] (.lst (vr 4)) .yes (p2 ixP (vr 0) (ci 0))) (.cmp [] (.lst (vr 4)) .yes (p2 ixP (vr 0) (ci 2)))) .nil)))
  (.seq (.fr 7 (.rng1 (.cons (ci 2) .nil)) (.seq (.lD 8 (.call cU (.cons (vr 5) .nil)))
  (.seq (.ifs (.not (.tst (.call fI (.cons (vr 8) (.cons (vr 6) .nil))))) (.ret (.cst (.b false))) .skip)
  (.drop (.mtr Ho 8 .nil)))))
  (.seq (.fr 9 (.lst (p2 jt (vr 6) (.lst (.cons (cs "nobody") (.cons (ci 77) (.cons (.tup (.cons (cs "none") .nil)) .nil)))))) (.seq (.fr 10 (.lst (p2 jt (vr 3) (.lst (.cons (cs "nobond") .nil)))) (.ifs (.not (.tst (.call iR (.cons (vr 5) (.cons (vr 4) (.cons (vr 9) (.cons (vr 10) .nil))))))) (.ret (.cst (.b false))) .skip))
  (.seq (.dg 11 (p1 rC (.cmp [9] (.lst (vr 4)) (.tst (p2 eqP (p2 ixP (vr 0) (ci 0)) (vr 1))) (p2 ixP (vr 0) (ci 1)))))
  (.seq (.lD 8 (.call bM (.cons (vr 5) (.cons (vr 9) .nil))))
  (.seq (.ifs (.or (.not (.tst (p1 (kN "list") (vr 8)))) (.tst (p2 neP (vr 8) (vr 11)))) (.ret (.cst (.b false))) .skip)
  (.seq (.drop (.mtr Cq 8 (.cons (cs "a") .nil)))
  (.ifs (.tst (p2 neP (.call bM (.cons (vr 5) (.cons (vr 9) .nil))) (vr 11))) (.ret (.cst (.b false))) .skip)))))))
  (.ret (.cst (.b true))))))))))))
noncomputable def vF:Fn:=b7 gds [.dat] 12 vH
noncomputable def pL (K:Fg):Sp:=bH vF K
section
variable (P:Program) (w:World) (K:Fg) (mg:Str->Option Value) (base:Heap) (t:Adr)
noncomputable abbrev bN:=ba P w K mg base CX0 1 (t.f 0).1 (t.f 0).2 ["thing", "fewest"] (gX K)
noncomputable abbrev fK:=ba P w K mg base CX0 2 (t.f 1).1 (t.f 1).2 ["thing"] (nv K)
noncomputable abbrev iD:=ba P w K mg base CX0 1 (t.f 2).1 (t.f 2).2 ["thing"] (kT K)
noncomputable abbrev fW:=ba P w K mg base CX0 2 (t.f 3).1 (t.f 3).2 ["thing"] (j0 K)
noncomputable abbrev jP:=ba P w K mg base CX0 2 (t.f 4).1 (t.f 4).2 ["thing"] (nN K)
noncomputable abbrev kg:=ba P w K mg base CX0 3 (t.f 5).1 (t.f 5).2 ["thing"] (oa K)
noncomputable abbrev jA:=ba P w K mg base CX0 1 (t.f 6).1 (t.f 6).2 ["node"] (ny K)
noncomputable abbrev dY:=ba P w K mg base CX0 2 (t.f 7).1 (t.f 7).2 ["node"] (lL K)
noncomputable abbrev ij:=ba P w K mg base CX0 5 (t.f 8).1 (t.f 8).2 ["nodes"] (k7 K)
noncomputable abbrev jy:=ba P w K mg base CX0 4 (t.f 9).1 (t.f 9).2 ["thing"] (nJ K)
noncomputable abbrev iP:=ba P w K mg base CX0 3 (t.f 10).1 (t.f 10).2 ["fact"] (lX K)
noncomputable abbrev bU:=ba P w K mg base CX0 6 (t.f 11).1 (t.f 11).2 ["facts"] (d8 K)
noncomputable abbrev bR:=ba P w K mg base CX0 1 (t.f 12).1 (t.f 12).2 ["step"] (g8 K)
noncomputable abbrev j5:=ba P w K mg base CX0 2 (t.f 13).1 (t.f 13).2 ["step"] (nR K)
noncomputable abbrev gJ:=ba P w K mg base CX0 5 (t.f 14).1 (t.f 14).2 ["things"] (ku K)
noncomputable abbrev mf:=ba P w K mg base CX0 7 (t.f 15).1 (t.f 15).2 ["facts"] (rg K)
noncomputable abbrev iq:=ba P w K mg base CX0 6 (t.f 16).1 (t.f 16).2 ["web"] (lA K)
noncomputable abbrev wK:=ba P w K mg base CX0 3 (t.f 17).1 (t.f 17).2 ["web", "node", "step"] (xH K)
noncomputable abbrev iM:=ba P w K mg base CX0 1 (t.f 18).1 (t.f 18).2 ["web", "node"] (lG K)
noncomputable abbrev Cp:=ba P w K mg base CX0 1 (t.f 19).1 (t.f 19).2 ["_law_script"] (B3 K)
noncomputable abbrev iw:=ba P w K mg base CX0 1 (t.f 20).1 (t.f 20).2 ["_law_pen_here", "_law_most"] (yr K)
noncomputable abbrev sx:=ba P w K mg base CX0 2 (t.f 21).1 (t.f 21).2 ["_law_pen_here", "_law_many"] (xP K)
noncomputable abbrev oV:=ba P w K mg base CX0 3 (t.f 22).1 (t.f 22).2 ["_law_pen_here", "_law_most"] (ua K)
noncomputable abbrev wt:=ba P w K mg base CX0 3 (t.f 23).1 (t.f 23).2 ["_law_pen_here", "_law_things"] (yg K)
noncomputable abbrev rV:=ba P w K mg base CX0 4 (t.f 24).1 (t.f 24).2 ["_law_pen_here", "_law_things", "_law_bonds"] (u7 K)
noncomputable abbrev rG:=ba P w K mg base CX0 1 (t.f 25).1 (t.f 25).2 ["_law_node_here"] (yp K)
noncomputable abbrev mU:=ba P w K mg base CX0 2 (t.f 26).1 (t.f 26).2 ["_law_one", "_law_other"] (sh K)
noncomputable abbrev qV:=ba P w K mg base CX0 3 (t.f 27).1 (t.f 27).2 ["_law_nodes"] (yt K)
noncomputable abbrev lQ:=ba P w K mg base CX0 2 (t.f 28).1 (t.f 28).2 ["_law_found", "_law_due"] (uH K)
noncomputable abbrev oK:=ba P w K mg base CX0 4 (t.f 29).1 (t.f 29).2 ["_law_web", "_law_facts_here", "_law_node_here", "_law_bond"] (uU K)
noncomputable abbrev Fv:=ba P w K mg base CX0 8 (t.f 30).1 (t.f 30).2 ["_law_script"] (pL K)
end
section
variable {P:Program} {w:World} {K:Fg} {mg:Str->Option Value} {base:Heap} {t:Adr} {n:Nat} {cdv:Value} {A:Around} {outer:List Env} {s:Shared} {H:Hp} {E:XK}
theorem g7 (T:Txt K mg t):bN P w K mg base t :=
 (T.d 0 rfl).ok gW (aJ T) fun hr=>aH (dJ (eW (yT (g6 (eUx (eIz T.z_isinstance (eVx 0) T.z_str))) (kP (g6 (wY ju ju (eVx 1) (eBs aZ T.z_len (eAx (eVx 0) aj)) (uE (v:=.int 8) rfl T.g_MOST_LETTERS ⟨_,rfl⟩ rfl) (by with_unfolding_all rfl)))))) (aB (a8 eBl)) dt) (aB (a8 (eBs (qB rfl) T.z_all (eAx (eKx [] (eIS (eVx 0)) eT0 (eC fun _ _ _ _=>(Ck ju ju bI (eVx 0) bI (by with_unfolding_all rfl))) (bsc (sc:=aa bh) rfl (by decide +kernel)) trivial) aj))))
theorem n0 (T:Txt K mg t) (G0:bN P w K mg base t):fK P w K mg base t :=
 (T.d 1 rfl).ok nt (aJ T) fun hr=>aB (a8 (eCx G0 hr (T.d 0 rfl) (eAx (eVx 0) (eAx aq aj))))
theorem kZ (T:Txt K mg t):iD P w K mg base t :=
 (T.d 2 rfl).ok lN (aJ T) fun hr=>aB (a8 (y8 (eIz T.z_isinstance (eVx 0) T.z_int) (AB (Ij (eIz T.z_isinstance (eVx 0) T.z_bool)))))
theorem jx (T:Txt K mg t) (G2:iD P w K mg base t):fW P w K mg base t :=
 (T.d 3 rfl).ok ki (aJ T) fun hr=>aB (a8 (y8 (eCx G2 hr (T.d 2 rfl) (eAx (eVx 0) aj)) (AB (CD ju (eBs lJ T.z_abs (eAx (eVx 0) aj)) (uE (v:=.int 999999999999999999999999999999) rfl T.g_GREATEST_NUMBER ⟨_,rfl⟩ rfl) (fO _)))))
theorem n5 (T:Txt K mg t) (G0:bN P w K mg base t):jP P w K mg base t :=
 (T.d 4 rfl).ok nL (aJ T) fun hr=>aB (a8 (y8 (eIz T.z_isinstance (eVx 0) T.z_tuple) (y8 (CD (aO hr.units) (eBs aZ T.z_len (eAx (eVx 0) aj)) aq (fO _)) (AB (eCx G0 hr (T.d 0 rfl) (eAx (eIy (eVx 0) aq) (eAx aq aj)))))))
theorem om (T:Txt K mg t) (G1:fK P w K mg base t) (G3:fW P w K mg base t) (G4:jP P w K mg base t):kg P w K mg base t :=
 (T.d 5 rfl).ok n4 (aJ T) fun hr=>aB (a8 (eOr (eCx G1 hr (T.d 1 rfl) (eAx (eVx 0) aj)) (eOr (eCx G3 hr (T.d 3 rfl) (eAx (eVx 0) aj)) (AB (eCx G4 hr (T.d 4 rfl) (eAx (eVx 0) aj))))))
theorem nq (T:Txt K mg t):jA P w K mg base t :=
 (T.d 6 rfl).ok n6 (aJ T) fun hr=>aH (dJ (eUx (eIz T.z_isinstance (eVx 0) T.z_str)) (aB (a8 bI)) dt) (aH (dJ (eUx (eIz T.z_isinstance (eVx 0) T.z_tuple)) (aB (a8 bI)) dt) (aB (a8 bI)))
theorem lK (T:Txt K mg t) (G6:jA P w K mg base t):dY P w K mg base t :=
 (T.d 7 rfl).ok gK (aJ T) fun hr=>aH (eSx gK.nd 1 (eCx G6 hr (T.d 6 rfl) (eAx (eVx 0) aj))) (aH (dJ (eTx (aO hr.units) (eVx 1) bI) (aB (a8 (tm (eAx aq (eAx (eVx 0) (eAx bI aj)))))) dt) (aH (dJ (eTx (aO hr.units) (eVx 1) bI) (aB (a8 (tm (eAx aq (eAx aq (eAx (eIy (eVx 0) aq) aj)))))) dt) (aB (a8 (tm (eAx aq (eAx aq (eAx (eVx 0) aj))))))))
theorem lF (T:Txt K mg t) (G7:dY P w K mg base t):ij P w K mg base t :=
 (T.d 8 rfl).ok cX (aJ T) fun hr=>aH (eSx cX.nd 1 Cy) (aH (eFx (eIL (eVx 0)) (eGx cX.nd 2) (aB (pM hr.units (eVx 1) (eVx 2) eBl rfl))) (aB (a8 (Sg.vG kyS rfl G7 (hr.mono (by omega)) (T.d 7 rfl).b rfl T.z_sorted (by decide +kernel) rfl (T.d 7 rfl).m rfl (eAx (CO 1 rfl (Or.inl rfl) rfl rfl) aj) rfl))))
theorem ou (T:Txt K mg t) (G1:fK P w K mg base t) (G5:kg P w K mg base t):jy P w K mg base t :=
 (T.d 9 rfl).ok og (aJ T) fun hr=>aH (dJ (eW (yT (g6 (eUx (eIz T.z_isinstance (eVx 0) T.z_tuple))) (kP (eTx (il hr.units) (eBs aZ T.z_len (eAx (eVx 0) aj)) aq)))) (aB (a8 eBl)) dt) (aB (a8 (y8 (eCx G1 hr (T.d 1 rfl) (eAx (eIy (eVx 0) aq) aj)) (y8 (eCx G1 hr (T.d 1 rfl) (eAx (eIy (eVx 0) aq) aj)) (AB (eCx G5 hr (T.d 5 rfl) (eAx (eIy (eVx 0) aq) aj)))))))
theorem lj (T:Txt K mg t) (G7:dY P w K mg base t):iP P w K mg base t :=
 (T.d 10 rfl).ok lg (aJ T) fun hr=>aB (a8 (tm (eAx (eIy (eVx 0) aq) (eAx (eIx bV (eVx 0) aq (fun _ _=>rfl)) (eA (eCl G7 hr (T.d 7 rfl).m (T.d 7 rfl).F.kp (T.d 7 rfl).b (eA (eIx bV (eVx 0) aq (fun _ _=>rfl)) aj rfl)) aj rfl)))))
theorem eG (T:Txt K mg t) (G10:iP P w K mg base t):bU P w K mg base t :=
 (T.d 11 rfl).ok aR (aJ T) fun hr=>aH (eSx aR.nd 1 Cy) (aH (eFx (eIL (eVx 0)) (eGx aR.nd 2) (aB (pM hr.units (eVx 1) (eVx 2) eBl rfl))) (aB (a8 (Sg.vG fyS rfl G10 (hr.mono (by omega)) (T.d 10 rfl).b rfl T.z_sorted (by decide +kernel) rfl (T.d 10 rfl).m rfl (eAx (CO 1 rfl (Or.inl rfl) rfl rfl) aj) rfl))))
theorem gZ (T:Txt K mg t):bR P w K mg base t :=
 (T.d 12 rfl).ok gR (aJ T) fun hr=>aB (a8 (eBM (eVx 0) (eAx (uE (v:=.str "^") rfl T.g_BACK ⟨_,rfl⟩ rfl) aj) qd PySem.F.plainAttrs_str PySem.F.slot_str_startswith PySem.F.type_str_startswith rfl rfl rfl rfl rfl))
theorem nu (T:Txt K mg t) (G12:bR P w K mg base t):j5 P w K mg base t :=
 (T.d 13 rfl).ok nP (aJ T) fun hr=>aB (a8 (eIf (eUx (eCx G12 hr (T.d 12 rfl) (eAx (eVx 0) aj))) (eSl (orS vo (orS oX vt)) (eVx 0) (eP aq) Gu) (eVx 0)))
theorem jT (T:Txt K mg t) (G9:jy P w K mg base t):gJ P w K mg base t :=
 (T.d 14 rfl).ok j7 (aJ T) fun hr=>aB (a8 (eBs (qB rfl) T.z_all (eAx (eKx [] (eIL (eVx 0)) eT0 (eC fun _ _ _ _=>(eCl G9 hr (T.d 9 rfl).m (T.d 9 rfl).F.kp (T.d 9 rfl).b (eA (eVx 0) aj rfl))) (bsc (sc:=aa bO) rfl (by decide +kernel)) trivial) aj)))
theorem rL (T:Txt K mg t) (G14:gJ P w K mg base t) (G11:bU P w K mg base t):mf P w K mg base t :=
 (T.d 15 rfl).ok jv (aJ T) fun hr=>aH (dJ (eW (yT (g6 (eUx (Fe rfl T.z_isinstance (eVx 0) rfl (F6 (v:=.ty "list") rfl T.z_list (by decide +kernel) rfl (by decide) rfl) (F6 (v:=.ty "tuple") rfl T.z_tuple (by decide +kernel) rfl (by decide) rfl)))) (kP (g6 (eUx (eCx G14 hr (T.d 14 rfl) (eAx (eVx 0) aj))))))) (aB wg) dt) (aH (eSx jv.nd 1 (eTs sD T.z_tuple (eAx (eCx G11 hr (T.d 11 rfl) (eAx (eVx 0) aj)) aj))) (aH (dJ (eTx wC (eBs aZ T.z_len (eAx (eVx 1) aj)) (uE (v:=.int 400) rfl T.g_MOST_FACTS ⟨_,rfl⟩ rfl)) (aB wg) dt) (aB (a8 (eVx 1)))))
theorem lE (T:Txt K mg t) (G8:ij P w K mg base t):iq P w K mg base t :=
 (T.d 16 rfl).ok ly (aJ T) fun hr=>aB (a8 (eCx G8 hr (T.d 8 rfl) (eAx (eOp aL (eKx [] (eIT (eVx 0)) eT0 (eC fun _ _ _ _=>(eIx bV (eVx 0) aq (fun _ _=>rfl))) (bsc (sc:=aa bq) rfl (by decide +kernel)) trivial) (eKx [] (eIT (eVx 0)) eT0 (eC fun _ _ _ _=>(eIx bV (eVx 0) aq (fun _ _=>rfl))) (bsc (sc:=aa bq) rfl (by decide +kernel)) trivial)) aj)))
theorem xY (T:Txt K mg t) (G13:j5 P w K mg base t) (G12:bR P w K mg base t):wK P w K mg base t :=
 (T.d 17 rfl).ok sd (aJ T) fun hr=>aH (eSy sd.nd 3 (eCx G13 hr (T.d 13 rfl) (eAx (eVx 2) aj))) (aH (dJ (eUx (eCx G12 hr (T.d 12 rfl) (eAx (eVx 2) aj))) (aB (a8 (eKx ["bond", "node"] (eIT (eVx 0)) (eT1 fun _ _ _ _=>(eW (sN (eTx (aO hr.units) (eIy (eVx 0) aq) (eVy 1)) (jR (eTx (aO hr.units) (eIy (eVx 0) aq) (eVy 2)))))) (eC fun _ _ _ _=>(eIy (eVx 0) aq)) (bsc (sc:=aa fB) rfl (by decide +kernel)) ⟨rfl,⟨rfl,rfl⟩,⟨rfl,⟨rfl,rfl⟩,trivial⟩⟩))) dt) (aB (a8 (eKx ["node", "bond"] (eIT (eVx 0)) (eT1 fun _ _ _ _=>(eW (sN (eTx (aO hr.units) (eIy (eVx 0) aq) (eVy 1)) (jR (eTx (aO hr.units) (eIy (eVx 0) aq) (eVy 2)))))) (eC fun _ _ _ _=>(eIy (eVx 0) aq)) (bsc (sc:=aa fB) rfl (by decide +kernel)) ⟨rfl,⟨rfl,rfl⟩,⟨rfl,⟨rfl,rfl⟩,trivial⟩⟩))))
theorem lY (T:Txt K mg t):iM P w K mg base t :=
 (T.d 18 rfl).ok k6 (aJ T) fun hr=>aB (a8 (eSS rfl rfl T.z_sorted rfl T.z_set rfl (eKx ["node"] (eIT (eVx 0)) (eT1 fun _ _ _ _=>(eTx (aO hr.units) (eIx bV (eVx 0) aq (fun _ _=>rfl)) (eVy 1))) (eC fun _ _ _ _=>(eIy (eVx 0) aq)) (bsc (sc:=aa cm) rfl (by decide +kernel)) ⟨rfl,⟨rfl,rfl⟩,trivial⟩)))
theorem Bo (T:Txt K mg t):Cp P w K mg base t :=
 (T.d 19 rfl).ok zJ (aJ T) fun hr=>aB (a8 (Cc (ePC bI (eVx 0) (ePC bI aq (ePC bI aq ePN))) (by rfl) (by rfl) (by simp) (by decide)))
theorem yU (T:Txt K mg t):iw P w K mg base t :=
 (T.d 20 rfl).ok cu (aJ T) fun hr=>aH (eSx cu.nd 2 (jK hr.units (eVx 0) bI (fun _ _=>rfl))) (aH (dJ (eTx (aO hr.units) (jK hr.units (eVx 0) bI (fun _ _=>rfl)) aq) (aH (pM hr.units (eVx 0) bI (eOp aL (eVx 2) aq) rfl) (aH (eSx cu.nd 3 aq) (aH (dJ (eTx wC (eBs aZ T.z_len (eAx (jK hr.units (eVx 0) bI (fun _ _=>rfl)) aj)) aq) (aB (eSx cu.nd 3 (eIy (jK hr.units (eVx 0) bI (fun _ _=>rfl)) (eOp cS (eVx 2) (eBs aZ T.z_len (eAx (jK hr.units (eVx 0) bI (fun _ _=>rfl)) aj)))))) dt) (aH (dJ (eW (yT (eTx zW (eVx 2) (eBs aZ T.z_len (eAx (jK hr.units (eVx 0) bI (fun _ _=>rfl)) aj))) (kP (eTx jD (eBs lJ T.z_abs (eAx (eVx 3) aj)) (eOp qv aq aq))))) (aH (eSx cu.nd 3 (eOp aL (eOp aL (eOp cS (eVx 3) aq) (eOp cY aq (eVx 2))) aq)) (aH (eSx cu.nd 4 (eOp cS (eOp cY (eVx 3) aq) aq)) (aH (eSx cu.nd 4 (eOp cS (eOp aL (eOp aL (eOp cY (eVx 4) (eVx 4)) (eOp cY aq (eVx 4))) (eOp cY aq (eVx 2))) aq)) (aB (a8 (eOp cS (eOp mV (eOp cS (eOp cY (eVx 4) aq) aq) aq) (eVx 1))))))) dt) (aB (pM hr.units (eVx 0) bI (eBs lJ T.z_abs (eAx (eVx 3) aj)) rfl)))))) dt) (aH (eSx cu.nd 5 (eOp cS (jK hr.units (eVx 0) bI (fun _ _=>rfl)) (eVx 1))) (aH (pM hr.units (eVx 0) bI (eOp mV (jK hr.units (eVx 0) bI (fun _ _=>rfl)) (eVx 1)) rfl) (aB (a8 (eVx 5))))))
theorem w5 (T:Txt K mg t) (G20:iw P w K mg base t):sx P w K mg base t :=
 (T.d 21 rfl).ok kW (aJ T) fun hr=>aH (eSx kW.nd 2 (eIy (tj (eAx bI (eA bI (eA bI (eA (eIx bV (tj (eA bI (eA bI (eA bI (eA bI (eA bI (eA bI aj rfl) rfl) rfl) rfl) rfl) rfl)) (eCl G20 hr (T.d 20 rfl).m (T.d 20 rfl).F.kp (T.d 20 rfl).b (eA (eVx 0) (eA aq aj rfl) rfl)) (fun _ _=>rfl)) aj rfl) rfl) rfl))) (eCx G20 hr (T.d 20 rfl) (eAx (eVx 0) (eA aq aj rfl))))) (aH (Af (eTx jD (eBs aZ T.z_len (eAx (eVx 2) aj)) (eVx 1)) (aB (eSx kW.nd 2 (eOp aL (eVx 2) (eIy bI (eCx G20 hr (T.d 20 rfl) (eAx (eVx 0) (eAx aq aj))))))) PassesOwn.never) (aB (a8 (eSl (orS vo (orS oX vt)) (eVx 2) Gu (eP (eVx 1))))))
theorem uR (T:Txt K mg t) (G20:iw P w K mg base t) (G21:sx P w K mg base t):oV P w K mg base t :=
 (T.d 22 rfl).ok fE (aJ T) fun hr=>aH (eSx fE.nd 2 (tj aj)) (aH (eFx (eR1 rfl T.z_range (eAx (eOp aL aq (eCx G20 hr (T.d 20 rfl) (eAx (eVx 0) (eAx (eVx 1) aj)))) aj) rfl) (eGx fE.nd 3) (aH (eSx fE.nd 4 (eCx G21 hr (T.d 21 rfl) (eAx (eVx 0) (eAx (eOp aL aq (eCx G20 hr (T.d 20 rfl) (eAx (eVx 0) (eAx aq aj)))) aj)))) (aB (dJ (k0 (dH hr.units) (eVx 4) (eVx 2) (by with_unfolding_all rfl)) (aB (oj (eBM (eVx 2) (eAx (eVx 4) aj) dM KD LO LN rfl rfl rfl rfl rfl) rfl)) dt)))) (aB (a8 (eVx 2))))
theorem yo (T:Txt K mg t) (G20:iw P w K mg base t) (G21:sx P w K mg base t):wt P w K mg base t :=
 (T.d 23 rfl).ok r8 (aJ T) fun hr=>aH (eSx r8.nd 2 (eCx G20 hr (T.d 20 rfl) (eAx (eVx 0) (eAx aq aj)))) (aH (dJ (eTx jD (eVx 2) aq) (aB (a8 (eIy (eVx 1) (eCx G20 hr (T.d 20 rfl) (eAx (eVx 0) (eAx (eBs aZ T.z_len (eAx (eVx 1) aj)) aj)))))) dt) (aH (dJ (eTx (aO hr.units) (eVx 2) aq) (aB (a8 (eOp lU (eCx G20 hr (T.d 20 rfl) (eAx (eVx 0) (eAx aq aj))) aq))) dt) (aH (dJ (eTx (aO hr.units) (eVx 2) aq) (aB (a8 (eOp cY (eIy (tj (eAx aq (eAx (eUy aq) aj))) (eCx G20 hr (T.d 20 rfl) (eAx (eVx 0) (eAx aq aj)))) (eOp lU (eOp lU (eOp qv aq aq) aq) (eCx G20 hr (T.d 20 rfl) (eAx (eVx 0) (eAx aq aj))))))) dt) (aB (a8 (tm (eAx (eIy (tj (eAx bI (eAx bI (eAx bI (eAx (eCl G21 hr (T.d 21 rfl).m (T.d 21 rfl).F.kp (T.d 21 rfl).b (eA (eVx 0) (eA aq aj rfl) rfl)) aj))))) (eCx G20 hr (T.d 20 rfl) (eAx (eVx 0) (eAx aq aj)))) aj)))))))
theorem u6 (T:Txt K mg t) (G20:iw P w K mg base t) (G23:wt P w K mg base t):rV P w K mg base t :=
 (T.d 24 rfl).ok cI (aJ T) fun hr=>aH (eSx cI.nd 3 (eCx G20 hr (T.d 20 rfl) (eAx (eVx 0) (eAx aq aj)))) (aH (dJ (eTx (aO hr.units) (eCx G20 hr (T.d 20 rfl) (eAx (eVx 0) (eAx aq aj))) aq) (aB (eSx cI.nd 3 (eOp aL aq (eCx G20 hr (T.d 20 rfl) (eAx (eVx 0) (eAx aq aj)))))) dt) (aH (eSx cI.nd 4 (tj aj)) (aH (eFx (eR1 rfl T.z_range (eAx (eVx 3) aj) rfl) (eGx cI.nd 5) (aH (eSx cI.nd 6 (tm (eAx (eIy (eVx 1) (eCx G20 hr (T.d 20 rfl) (eAx (eVx 0) (eAx (eBs aZ T.z_len (eAx (eVx 1) aj)) aj)))) (eAx (eIy (eVx 2) (eCx G20 hr (T.d 20 rfl) (eAx (eVx 0) (eAx (eBs aZ T.z_len (eAx (eVx 2) aj)) aj)))) (eAx (eCx G23 hr (T.d 23 rfl) (eAx (eVx 0) (eAx (eVx 1) aj))) aj))))) (aB (dJ (k0 (dH hr.units) (eVx 6) (eVx 4) (by with_unfolding_all rfl)) (aB (oj (eBM (eVx 4) (eAx (eVx 6) aj) dM KD LO LN rfl rfl rfl rfl rfl) rfl)) dt)))) (aB (a8 (eVx 4))))))
theorem xu (T:Txt K mg t):rG P w K mg base t :=
 (T.d 25 rfl).ok yd (aJ T) fun hr=>aH (dJ (eUx (eIz T.z_isinstance (eVx 0) T.z_str)) (aB (a8 aq)) dt) (aB (a8 (eTs x8 T.z_int (eAx (eIz T.z_isinstance (eVx 0) T.z_tuple) aj))))
theorem pV (T:Txt K mg t) (G25:rG P w K mg base t):mU P w K mg base t :=
 (T.d 26 rfl).ok qY (aJ T) fun hr=>aH (dJ (eTx (il hr.units) (eCx G25 hr (T.d 25 rfl) (eAx (eVx 0) aj)) (eCx G25 hr (T.d 25 rfl) (eAx (eVx 1) aj))) (aB (a8 (CD jD (eCx G25 hr (T.d 25 rfl) (eAx (eVx 0) aj)) (eCx G25 hr (T.d 25 rfl) (eAx (eVx 1) aj)) (fO _)))) dt) (aB (a8 (CD (yQ hr.Ap) (eVx 0) (eVx 1) (fO _))))
theorem yJ (T:Txt K mg t) (G26:mU P w K mg base t):qV P w K mg base t :=
 (T.d 27 rfl).ok k9 (aJ T) fun hr=>aH (eSx k9.nd 1 (tj aj)) (aH (eFx (eIL (eVx 0)) (eGy k9.nd 2) (aB (dJ (k0 (dH hr.units) (eVy 2) (eVx 1) (by with_unfolding_all rfl)) (aB (oj (eBM (eVx 1) (eAx (eBs aZ T.z_len (eAx (eKx ["_law_node_here"] (eIL (eVx 1)) (eT1 fun _ _ _ _=>(eUx (eCx G26 hr (T.d 26 rfl) (eAx (eVx 0) (eAx (eVy 1) aj))))) (eC fun _ _ _ _=>(eVx 0)) (bsc (sc:=aa iS) rfl (by decide +kernel)) ⟨rfl,⟨rfl,rfl⟩,trivial⟩) aj)) (eAx (eVy 2) aj)) rY KD PySem.F.slot_list_insert PySem.F.type_list_insert rfl rfl rfl rfl rfl) rfl)) dt))) (aB (a8 (eVx 1))))
theorem ur (T:Txt K mg t) (G25:rG P w K mg base t):lQ P w K mg base t :=
 (T.d 28 rfl).ok iV (aJ T) fun hr=>aH (dJ (eW (yT (g6 (eUx (eIz T.z_isinstance (eVx 0) T.z_list))) (kP (eTx (il hr.units) (eVx 0) (eVx 1))))) (aB (a8 eBl)) dt) (aH (eFx (eIZ rfl T.z_zip (by decide +kernel) (eAx (eVx 0) (eAx (eVx 1) aj)) rfl rfl) (eGT (n:=2) rfl (CK (i:=2) iV.nd rfl (Or.inl rfl) (Or.inl rfl) (CK (i:=3) iV.nd rfl (Or.inl rfl) (Or.inl rfl) Hd)) rfl rfl) (aB (dJ (eW (yT (eUx (eIz T.z_isinstance (eVx 2) T.z_bool)) (kP (eTx (il hr.units) (eCx G25 hr (T.d 25 rfl) (eAx (eVx 2) aj)) (eCx G25 hr (T.d 25 rfl) (eAx (eVx 3) aj)))))) (aB (a8 eBl)) dt))) (aB (a8 eBl)))
theorem tI (T:Txt K mg t) (G27:qV P w K mg base t) (G17:wK P w K mg base t) (G28:lQ P w K mg base t):oK P w K mg base t :=
 (T.d 29 rfl).ok bT (aJ T) fun hr=>aH (eSx bT.nd 4 (eCx G27 hr (T.d 27 rfl) (eAx (eKx ["_law_node_here", "_law_bond"] (eIL (eVx 1)) (eT1 fun _ _ _ _=>(eW (sN (k0 (aO hr.units) (eIx bV (eVx 0) aq (fun _ _=>rfl)) (eVy 1) (fO _)) (jR (k0 (aO hr.units) (eIx bV (eVx 0) aq (fun _ _=>rfl)) (eVy 2) (fO _)))))) (eC fun _ _ _ _=>(eIx bV (eVx 0) aq (fun _ _=>rfl))) (bsc (sc:=aa c8) rfl (by decide +kernel)) ⟨rfl,⟨rfl,rfl⟩,⟨rfl,⟨rfl,rfl⟩,trivial⟩⟩) aj))) (aH (eSx bT.nd 5 (eCx G27 hr (T.d 27 rfl) (eAx (eKx ["_law_node_here", "_law_bond"] (eIL (eVx 1)) (eT1 fun _ _ _ _=>(eW (sN (eTx (aO hr.units) (eIx bV (eVx 0) aq (fun _ _=>rfl)) (eVy 1)) (jR (eTx (aO hr.units) (eIx bV (eVx 0) aq (fun _ _=>rfl)) (eVy 2)))))) (eC fun _ _ _ _=>(eIy (eVx 0) aq)) (bsc (sc:=aa c8) rfl (by decide +kernel)) ⟨rfl,⟨rfl,rfl⟩,⟨rfl,⟨rfl,rfl⟩,trivial⟩⟩) aj))) (aH (eFx (eIL (tj (eAx (tm (eAx (eVy 3) (eAx (eVx 4) aj))) (eAx (tm (eAx (eOp aL bI (eVy 3)) (eAx (eVx 5) aj))) aj)))) (eGT (n:=2) rfl (CK (i:=6) bT.nd rfl (Or.inl rfl) (Or.inl rfl) (CK (i:=7) bT.nd rfl (Or.inl rfl) (Or.inl rfl) Hd)) rfl rfl) (aB (eFx (eR1 rfl T.z_range (eAx aq aj) rfl) (eGx bT.nd 8) (aH (eSx bT.nd 9 (eCx G17 hr (T.d 17 rfl) (eAx (eVx 0) (eAx (eVy 2) (eAx (eVx 6) aj))))) (aH (dJ (g6 (eUx (eCx G28 hr (T.d 28 rfl) (eAx (eVx 9) (eAx (eVx 7) aj))))) (aB (a8 eBl)) dt) (aB (oj (eBM (eVx 9) (eAx (eVy 2) aj) dM KD LO LN rfl rfl rfl rfl rfl) rfl))))))) (aB (a8 eBl))))
theorem zm (T:Txt K mg t) (G19:Cp P w K mg base t) (G22:oV P w K mg base t) (G20:iw P w K mg base t) (G24:rV P w K mg base t) (G15:mf P w K mg base t) (G27:qV P w K mg base t) (G16:iq P w K mg base t) (G28:lQ P w K mg base t) (G29:oK P w K mg base t) (G18:iM P w K mg base t):Fv P w K mg base t :=
 (T.d 30 rfl).ok bD (aJ T) fun hr=>aH (eSx bD.nd 1 (eCx G19 hr (T.d 19 rfl) (eAx (eVx 0) aj))) (aH (eSx bD.nd 2 (eCx G22 hr (T.d 22 rfl) (eAx (eVx 1) (eAx aq aj)))) (aH (eSx bD.nd 3 (eCx G22 hr (T.d 22 rfl) (eAx (eVx 1) (eAx aq aj)))) (aH (dJ (eW (sN (eTx (aO hr.units) (eCx G20 hr (T.d 20 rfl) (eAx (eVx 1) (eAx aq aj))) aq) (jR (k0 (dH hr.units) (eIy (eVx 2) aq) (eVx 3) (by with_unfolding_all rfl))))) (aB (Iy (eIy (eVx 2) aq) (Ia (eVx 3) aq set_list (fun _=>rfl)) rfl rfl rfl)) dt) (aH (eSx bD.nd 4 (eCx G24 hr (T.d 24 rfl) (eAx (eVx 1) (eAx (eVx 2) (eAx (eVx 3) aj))))) (aH (eSx bD.nd 5 (eCx G15 hr (T.d 15 rfl) (eAx (eVx 4) aj))) (aH (eSx bD.nd 6 (eCx G27 hr (T.d 27 rfl) (eAx (eOp aL (eKx [] (eIL (eVx 4)) eT0 (eC fun _ _ _ _=>(eIy (eVx 0) aq)) (bsc (sc:=aa gL) rfl (by decide +kernel)) trivial) (eKx [] (eIL (eVx 4)) eT0 (eC fun _ _ _ _=>(eIy (eVx 0) aq)) (bsc (sc:=aa gL) rfl (by decide +kernel)) trivial)) aj))) (aH (eFx (eR1 rfl T.z_range (eAx aq aj) rfl) (eGx bD.nd 7) (aH (eSx bD.nd 8 (eCx G16 hr (T.d 16 rfl) (eAx (eVx 5) aj))) (aH (dJ (g6 (eUx (eCx G28 hr (T.d 28 rfl) (eAx (eVx 8) (eAx (eVx 6) aj))))) (aB (a8 eBl)) dt) (aB (oj (Ip (eVx 8) uP KD PySem.F.slot_list_clear PySem.F.type_list_clear rfl rfl) rfl))))) (aH (eFx (eIL (eOp aL (eVx 6) (tj (eAx bI (eAx aq (eAx (tm (eAx bI aj)) aj)))))) (eGy bD.nd 9) (aH (eFx (eIL (eOp aL (eVx 3) (tj (eAx bI aj)))) (eGx bD.nd 10) (aB (dJ (g6 (eUx (eCx G29 hr (T.d 29 rfl) (eAx (eVx 5) (eAx (eVx 4) (eAx (eVy 9) (eAx (eVx 10) aj))))))) (aB (a8 eBl)) dt))) (aH (eSx bD.nd 11 (eSS rfl rfl T.z_sorted rfl T.z_set rfl (eKx ["_law_node_here"] (eIL (eVx 4)) (eT1 fun _ _ _ _=>(eTx (aO hr.units) (eIy (eVx 0) aq) (eVy 1))) (eC fun _ _ _ _=>(eIy (eVx 0) aq)) (bsc (sc:=aa gL) rfl (by decide +kernel)) ⟨rfl,⟨rfl,rfl⟩,trivial⟩))) (aH (eSx bD.nd 8 (eCx G18 hr (T.d 18 rfl) (eAx (eVx 5) (eAx (eVy 9) aj)))) (aH (dJ (eW (yT (g6 (eUx (eIz T.z_isinstance (eVx 8) T.z_list))) (kP (eTx (il hr.units) (eVx 8) (eVx 11))))) (aB (a8 eBl)) dt) (aH (oj (eBM (eVx 8) (eAx bI aj) dM KD LO LN rfl rfl rfl rfl rfl) rfl) (aB (dJ (eTx (il hr.units) (eCx G18 hr (T.d 18 rfl) (eAx (eVx 5) (eAx (eVy 9) aj))) (eVx 11)) (aB (a8 eBl)) dt)))))))) (aB (a8 eBl))))))))))
end
theorem zy {P:Program} {w:World} {K:Fg} {mg:Str->Option Value} {base:Heap} {t:Adr} (T:Txt K mg t):ba P w K mg base CX0 8 (t.f 30).1 (t.f 30).2 ["_law_script"] (pL K):=by
 have h0:=Bo (P:=P) (w:=w) (base:=base) T;have h1:=yU (P:=P) (w:=w) (base:=base) T;have h2:=w5 (P:=P) (w:=w) (base:=base) T h1;have h3:=uR (P:=P) (w:=w) (base:=base) T h1 h2;have h4:=yo (P:=P) (w:=w) (base:=base) T h1 h2;have h5:=u6 (P:=P) (w:=w) (base:=base) T h1 h4;have h6:=g7 (P:=P) (w:=w) (base:=base) T;have h7:=n0 (P:=P) (w:=w) (base:=base) T h6;have h8:=kZ (P:=P) (w:=w) (base:=base) T;have h9:=jx (P:=P) (w:=w) (base:=base) T h8;have h10:=n5 (P:=P) (w:=w) (base:=base) T h6;have h11:=om (P:=P) (w:=w) (base:=base) T h7 h9 h10;have h12:=ou (P:=P) (w:=w) (base:=base) T h7 h11;have h13:=jT (P:=P) (w:=w) (base:=base) T h12;have h14:=nq (P:=P) (w:=w) (base:=base) T;have h15:=lK (P:=P) (w:=w) (base:=base) T h14;have h16:=lj (P:=P) (w:=w) (base:=base) T h15;have h17:=eG (P:=P) (w:=w) (base:=base) T h16;have h18:=rL (P:=P) (w:=w) (base:=base) T h13 h17;have h19:=xu (P:=P) (w:=w) (base:=base) T;have h20:=pV (P:=P) (w:=w) (base:=base) T h19;have h21:=yJ (P:=P) (w:=w) (base:=base) T h20;have h22:=lF (P:=P) (w:=w) (base:=base) T h15;have h23:=lE (P:=P) (w:=w) (base:=base) T h22;have h24:=ur (P:=P) (w:=w) (base:=base) T h19;have h25:=gZ (P:=P) (w:=w) (base:=base) T;have h26:=nu (P:=P) (w:=w) (base:=base) T h25;have h27:=xY (P:=P) (w:=w) (base:=base) T h26 h25;have h28:=tI (P:=P) (w:=w) (base:=base) T h21 h27 h24;have h29:=lY (P:=P) (w:=w) (base:=base) T;have h30:=zm (P:=P) (w:=w) (base:=base) T h0 h3 h1 h5 h18 h21 h23 h24 h28 h29;exact h30
theorem B9 {K:Fg} {h:Heap} {mg:Str->Option Value} (X:K.In h) (G:h.Ns mainGlobals mg) (D:y7 K mg dfs)
  (z_abs:PySem.W.nsIn K mainGlobals "abs" = some none)
  (z_all:PySem.W.nsIn K mainGlobals "all" = some none)
  (z_bool:PySem.W.nsIn K mainGlobals "bool" = some none)
  (z_int:PySem.W.nsIn K mainGlobals "int" = some none)
  (z_isinstance:PySem.W.nsIn K mainGlobals "isinstance" = some none)
  (z_len:PySem.W.nsIn K mainGlobals "len" = some none)
  (z_list:PySem.W.nsIn K mainGlobals "list" = some none)
  (z_range:PySem.W.nsIn K mainGlobals "range" = some none)
  (z_set:PySem.W.nsIn K mainGlobals "set" = some none)
  (z_sorted:PySem.W.nsIn K mainGlobals "sorted" = some none)
  (z_str:PySem.W.nsIn K mainGlobals "str" = some none)
  (z_tuple:PySem.W.nsIn K mainGlobals "tuple" = some none)
  (z_zip:PySem.W.nsIn K mainGlobals "zip" = some none)
  {tk_BACK:Tok} (g_BACK:PySem.W.nsIn K mainGlobals "BACK" = some (some (Value.str "^" tk_BACK)))
  {tk_GREATEST_NUMBER:Tok} (g_GREATEST_NUMBER:PySem.W.nsIn K mainGlobals "GREATEST_NUMBER" = some (some (Value.int 999999999999999999999999999999 tk_GREATEST_NUMBER)))
  {tk_MOST_FACTS:Tok} (g_MOST_FACTS:PySem.W.nsIn K mainGlobals "MOST_FACTS" = some (some (Value.int 400 tk_MOST_FACTS)))
  {tk_MOST_LETTERS:Tok} (g_MOST_LETTERS:PySem.W.nsIn K mainGlobals "MOST_LETTERS" = some (some (Value.int 8 tk_MOST_LETTERS)))
  : ∃ t:Adr,(∀ (s:Shared) (u:Value),BindsTo s (t.f 30).2 ⟨[u],[]⟩ [("_law_script", u)])/\Txt K mg t:=by
 obtain ⟨f,hf⟩:=HW D
 exact ⟨⟨f,tk_BACK,tk_GREATEST_NUMBER,tk_MOST_FACTS,tk_MOST_LETTERS⟩,fun s u=>.of_eq ((hf 30 rfl).c [u] rfl),⟨hf,
  JY X G z_abs,
  JY X G z_all,
  JY X G z_bool,
  JY X G z_int,
  JY X G z_isinstance,
  JY X G z_len,
  JY X G z_list,
  JY X G z_range,
  JY X G z_set,
  JY X G z_sorted,
  JY X G z_str,
  JY X G z_tuple,
  JY X G z_zip,
  PySem.W.mg_of X G g_BACK,
  PySem.W.mg_of X G g_GREATEST_NUMBER,
  PySem.W.mg_of X G g_MOST_FACTS,
  PySem.W.mg_of X G g_MOST_LETTERS⟩⟩
local macro_rules | `(tactic| walk_at "p")=>`(tactic| first | with_reducible refine Bh ?_ | walk_at "p0")
local macro_rules | `(tactic| walk_at "p0")=>`(tactic| first
 | with_reducible refine Bv ?_ | with_reducible refine zH ?_ | with_reducible refine AJ ?_ | with_reducible refine Al ?_ | with_reducible refine zC ?_ | with_reducible refine EZ ?_ | with_reducible refine BI ?_ | with_reducible refine DR ?_ | with_reducible refine Iz ?_ | with_reducible refine Dc ?_ | with_reducible refine D9 ?_ | with_reducible refine E5 ?_ | with_reducible refine EV ?_
 | with_reducible refine De ?_ | with_reducible refine B6 ?_ | with_reducible refine Ex ?_
 | ((with_reducible refine w_var (d:=?d9) ?e9 ?_);(case e9=>exact rfl)) | ((with_reducible refine BV (d:=?d9) ?e9 ?_);(case e9=>exact rfl)) | ((with_reducible refine zF (d:=?d9) ?e9 ?_);(case e9=>exact rfl)) | ((with_reducible refine AW (d:=?d9) ?e9 ?_);(case e9=>exact rfl))
 | ((with_reducible refine Dd (d:=?d9) ?e9 ?_);(case e9=>exact rfl)) | ((with_reducible refine Fs (d:=?d9) ?e9 ?_);(case e9=>exact rfl)) | ((with_reducible refine EW (d:=?d9) ?e9 ?_);(case e9=>exact rfl))
 | with_reducible refine Fl ?_ | with_reducible refine zE ?_ | with_reducible refine DJ ?_ | ((with_reducible refine DI (d:=?d9) ?e9 ?f9 ?_);(case e9=>exact rfl);(case f9=>exact rfl))
 | with_reducible refine Ci ?_ | with_reducible refine A7 ?_ | with_reducible refine FU ?_ | with_reducible refine zr ?_ | with_reducible refine EX ?_ | with_reducible refine zB ?_ | with_reducible refine zT ?_ | with_reducible refine EI ?_ | with_reducible refine DY rfl ?_ | with_reducible refine A4 rfl ?_
 | with_reducible refine DA ?_ | with_reducible refine Fm ?_ | with_reducible refine w_and ?_ | with_reducible refine w_or ?_ | with_reducible refine w_not ?_ | with_reducible refine Dg ?_
 | with_reducible refine HQ ?_ | with_reducible refine Hz ?_ | with_reducible refine Ht ?_ | with_reducible refine Iv ?_ | with_reducible refine HC ?_ | with_reducible refine Iw ?_ | with_reducible refine Hk ?_
 | walk_at "q")
local macro_rules | `(tactic| walk_at "q0")=>`(tactic| first
 | ((with_reducible refine ye ?e9 ?_);(case e9=>exact rfl)) | ((with_reducible refine uj ?e9 ?_);(case e9=>exact rfl))
 | ((show WPr _ _ _ _);refine ⟨_,_,rfl,rfl,?_⟩) | ((show WPr _ _ _ _);(refine ⟨_,_,rfl,IV ?c9,?_⟩);(case c9=>walk_at "c")) | ((show CP _ _ _ _);refine ⟨_,_,rfl,rfl,?_⟩) | ((show tO _ _ _);refine ⟨_,rfl,?_⟩) | ((show C3 _ _ _ _ _ _ _);refine ⟨_,rfl,rfl,?_⟩) | ((show y9 _ _ _ _ _ _);refine ⟨_,_,_,rfl,rfl,rfl,?_⟩) | ((show CI _ _ _ _ _ _);refine ⟨_,rfl,rfl,?_⟩) | ((show CV _ _ _ _ _);refine ⟨_,_,_,rfl,rfl,rfl,?_⟩) | ((show WMr _ _ _ _ _);refine ⟨_,_,_,_,rfl,rfl,rfl,?_⟩) | ((show WTp _ _ _ _);refine ⟨_,rfl,Nat.le_of_ble_eq_true rfl,?_⟩) | ((show C1 _ _ _ _);refine ⟨_,_,rfl,rfl,?_⟩) | ((show Bn _ _ _ _);refine ⟨_,rfl,rfl,?_⟩) | ((show rQ _ _ _ _);refine ⟨_,rfl,rfl,?_⟩)
 | ((with_reducible refine ⟨_,rfl,?_⟩)))
local macro_rules | `(tactic| walk_at "pp")=>`(tactic| repeat walk_at "p")
local macro_rules | `(tactic| walk_at "c")=>`(tactic| first | exact rfl | assumption | (simp only [mulC,Bool.or_eq_true,Jx,LG] <;> omega))
local macro_rules | `(tactic| walk_at "pz")=>`(tactic| repeat walk_at "p0")
local macro_rules | `(tactic| walk_at "n=")=>`(tactic| ((try dsimp only [Cst.i,Cst.s,Cst.b,Cst.n,RV.av,ah,List.replicate_succ,List.replicate_zero,b6,dQ,ak,aX,ar,b5,lP,List.set_cons_zero,List.set_cons_succ,List.getElem?_cons_zero,List.getElem?_cons_succ,List.map_cons,List.map_nil,List.tail_cons,Option.getD_some,decide_true,decide_false,List.drop_succ_cons,List.drop_zero]);exact rfl))
local macro_rules | `(tactic| walk_at "n")=>`(tactic| first
 | ((with_reducible refine A5 (e':=?e9) ?h9 ?_);(case h9=>walk_at "n=")) | ((with_reducible refine xx (e':=?e9) ?h9 ?_);(case h9=>walk_at "n=")) | ((with_reducible refine An (e':=?e9) ?h9 ?_);(case h9=>walk_at "n=")) | ((with_reducible refine Ig (e':=?e9) ?h9 ?_);(case h9=>walk_at "n=")) | ((with_reducible refine IC (e':=?e9) ?h9 ?_);(case h9=>walk_at "n=")) | ((with_reducible refine HF (e':=?e9) ?h9 ?_);(case h9=>walk_at "n=")) | ((with_reducible refine Ir (e':=?e9) ?h9 ?_);(case h9=>walk_at "n=")) | ((with_reducible refine H0 (e':=?e9) ?h9 ?_);(case h9=>walk_at "n=")) | ((with_reducible refine D2 (e':=?e9) ?h9 ?_);(case h9=>walk_at "n=")) | ((with_reducible refine xg (e':=?e9) ?h9 ?_);(case h9=>walk_at "n=")) | ((with_reducible refine Dr (e':=?e9) ?h9 ?_);(case h9=>walk_at "n=")) | ((with_reducible refine Dy (e':=?e9) ?h9 ?_);(case h9=>walk_at "n=")) | ((with_reducible refine DT (e':=?e9) ?h9 ?_);(case h9=>walk_at "n=")) | ((with_reducible refine Bx (e':=?e9) ?h9 ?_);(case h9=>walk_at "n=")) | ((with_reducible refine BF (e':=?e9) ?h9 ?_);(case h9=>walk_at "n=")) | ((with_reducible refine xt (e':=?e9) ?h9 ?_);(case h9=>walk_at "n=")) | ((with_reducible refine Bw (e':=?e9) ?h9 ?_);(case h9=>walk_at "n=")) | ((with_reducible refine B8 (e':=?e9) ?h9 ?_);(case h9=>walk_at "n=")) | ((with_reducible refine Aq (e':=?e9) ?h9 ?_);(case h9=>walk_at "n=")))
local macro_rules | `(tactic| walk_at "soft")=>`(tactic| first | exact D6 | exact Fi | exact DE | assumption)
local macro_rules | `(tactic| walk_at "l")=>`(tactic| (rename_i h9;apply jU.out h9;clear h9;dsimp only [vf];intros))
local macro_rules | `(tactic| walk_at "L1")=>`(tactic| first | exact (rfl:jU [] []) | refine ⟨_,?_,rfl⟩ | ((refine ⟨_,_,?s9,?_,rfl⟩);(case s9=>walk_at "soft")))
local macro_rules | `(tactic| walk_at "L")=>`(tactic| repeat walk_at "L1")
local macro_rules | `(tactic| walk_at "q")=>`(tactic| first | walk_at "q0" | ((show Hf _ _ _ _);refine ⟨_,_,_,rfl,rfl,rfl,?_⟩) | ((show GH _ _ _ _ _);refine ⟨_,_,rfl,rfl,?_⟩) | ((show Bn _ _ _ _);(refine ⟨_,rfl,uM rfl ?s9,?_⟩);(case s9=>walk_at "soft")) | ((show rQ _ _ _ _);(refine ⟨_,rfl,uM rfl ?s9,?_⟩);(case s9=>walk_at "soft")))
local macro_rules | `(tactic| walk_at "fT1")=>`(tactic| ((refine nX ?f9 ?_);(case f9=>((refine uM rfl ?s9);(case s9=>walk_at "soft")))))
local macro_rules | `(tactic| walk_at "fT")=>`(tactic| ((refine zi (e2:=?e9) ?h9 ?_);(case h9=>((repeat walk_at "fT1");exact rfl))))
local macro_rules | `(tactic| walk_at "f")=>`(tactic| ((refine EK ?h9 ?_);(case h9=>((refine uM rfl ?s9);(case s9=>walk_at "soft")));walk_at "n"))
local macro_rules | `(tactic| walk_at "ps1")=>`(tactic| ((fail_if_success (with_reducible refine isEq ?_));walk_at "p"))
local macro_rules | `(tactic| walk_at "ps")=>`(tactic| repeat walk_at "ps1")
theorem cV {c:Bool} {a b:Prop} (h1:c=true->a) (h2:c=false->b):if c=true then a else b:=by
 cases c with
 | true=>rw [IV rfl];exact h1 rfl
 | false=>rw [IU (by decide)];exact h2 rfl
noncomputable def wX (cs:List Int) (p l:Int):PyData:=.dict [(.str "script", .list (cs.map .int)),(.str "at", .int p),(.str "left", .int l)]
theorem Cd {ns:List Int} {Q:PR->List PyData->Prop} (q:Q (.frs (wX ns 0 0)) []):WF qw [.list (ns.map .int)] Q:=⟨_,_,rfl,q⟩
theorem yf {cs:List Int} {p l m:Int} {Q:PR->List PyData->Prop} (hp:0<=p) (hb:p < 2 ^ 60) (hl:0<=l) (h0:0 < m) (hm:m < 2 ^ 200) (q:∀ v p' l',0<=v->v < m->0<=p'->p'<=p+1->0<=l'->Q (.dat (.int v)) [wX cs p' l']):WF ay [wX cs p l,.int m] Q:=by
 refine cM rfl ?_;have m0:∀ x:Int,0<=x % m/\x % m < m:=fun x=>⟨Int.emod_nonneg _ (by omega),Int.emod_lt_of_pos _ h0⟩;have d0:∀ x:Int,0<=x->0<=x / m:=fun x h=>Int.ediv_nonneg h (Int.le_of_lt h0);have fin:∀ c:Int,0<=(if c < 0 then -c else c):=fun c=>by split <;> omega
 unfold rm;walk_at "pp";refine cV (fun e0=>?_) (fun e0=>?_)
 ·walk_at "pp";refine cV (fun e1=>?_) (fun e1=>?_)
  ·have h1:(0:Int) < (((cs.map PyData.int).length:Nat):Int):=J0 e1;obtain ⟨d,hd,ed⟩:=atV (xs:=cs.map PyData.int) (Int.emod_nonneg p (by omega)) (Int.emod_lt_of_pos p h1);obtain ⟨c,_,rfl⟩:=Jz.mp hd;walk_at "pp";refine q8 rfl ed ?_;clear ed hd;walk_at "pp";refine cV (fun e2=>?_) (fun e2=>?_)
   ·walk_at "pp";exact q _ _ _ (m0 _).1 (m0 _).2 (by omega) (by omega) hl
   ·walk_at "pp";refine cV (fun e3=>?_) (fun e3=>?_)
    ·walk_at "pp";exact q _ _ _ (m0 _).1 (m0 _).2 (by omega) (by omega) hl
    ·walk_at "pp";exact q _ _ _ (m0 _).1 (m0 _).2 (by omega) (by omega) (d0 _ (fin c))
  ·walk_at "pp";refine cV (fun e2=>?_) (fun e2=>?_)
   ·walk_at "pp";exact q _ _ _ (m0 _).1 (m0 _).2 (by omega) (by omega) hl
   ·walk_at "pp";exact q _ _ _ (m0 _).1 (m0 _).2 (by omega) (by omega) hl
 ·walk_at "pp";exact q _ _ _ (m0 l).1 (m0 l).2 hp (by omega) (d0 l hl)
noncomputable def bS (cs:List Int) (B:Nat) (d:PyData):Prop:=∃ p l:Int,d=wX cs p l/\0<=p/\p<=B/\0<=l
theorem bS.mono {cs:List Int} {B C:Nat} {d:PyData} (h:bS cs B d) (hb:B<=C):bS cs C d:=by
 obtain ⟨p,l,e,a,b,c⟩:=h;exact ⟨p,l,e,a,by omega,c⟩
theorem DW {cs:List Int} {B:Nat} {pn:PyData} {m:Int} {e1:En} {Q:RV->En->Prop} {i:Nat} (hi:az e1 i=some pn) (hP:bS cs B pn) (hb:B < 2 ^ 60) (h0:0 < m) (hm:m < 2 ^ 200) (q:∀ v pn',bS cs (B+1) pn'->0<=v->v < m->Q (.dat (.int v)) (dQ e1 i pn')):n8 ay [.bor i,.dat (.int m)] e1 Q:=by
 obtain ⟨p,l,rfl,hp,hb',hl⟩:=hP;refine ab (ds:=[wX cs p l,.int m]) (is:=[i]) ?_ rfl (yf hp (by omega) hl h0 hm fun v p' l' a b c d e=>⟨?_,q v _ ⟨p',l',rfl,c,by omega,e⟩ a b⟩)
 ·show gU e1 [.ino,.dat] _=_;simp only [gU,DZ,hi]
 ·rfl
noncomputable def Ltr (x:Str):Prop:=∀ c∈x.cps.toList,97<=c/\c<=122
noncomputable abbrev abc:Str := "abcdefghijklmnopqrstuvwxyz"
theorem lV (x y:Str):(x++y).length=x.length+y.length:=gM x y
theorem fP (x y:Str):(x++y).cps.toList=x.cps.toList++y.cps.toList:=by
 show (x.cps++y.cps).toList=_;simp
theorem iZ (c:Nat):(⟨#[c]⟩:Str).length=1:=rfl
theorem yb {x y:Str} (hx:Ltr x) (hy:Ltr y):Ltr (x++y):=fun c hc=>by
 rw [fP] at hc;rcases Jv.mp hc with h | h
 ·exact hx c h
 ·exact hy c h
inductive Nd
 | num (n:Int)
 | c7 (x:Str)
 | ai (x:Str)
noncomputable def Nd.enc:Nd->PyData
 | .num n=>.int n
 | .c7 x=>.tuple [.str x]
 | .ai x=>.str x
noncomputable def Nd.key:Nd->Ky
 | .num n=>(0,n, "")
 | .c7 x=>(1,0,x)
 | .ai x=>(2,0,x)
noncomputable def CH (k:Ky):PyData:=.tuple [.int k.1,.int k.2.1,.str k.2.2]
noncomputable def ltN (a b:Nd):Bool:=ltK a.key b.key
theorem iX:∀ {a b:Nd},a.key=b.key->a=b
 | .num n,.num m,h=>by have:n=m:=congrArg (·.2.1) h;rw [this]
 | .c7 x,.c7 y,h=>by have:x=y:=congrArg (·.2.2) h;rw [this]
 | .ai x,.ai y,h=>by have:x=y:=congrArg (·.2.2) h;rw [this]
 | .num _,.c7 _,h=>by have:=congrArg (·.1) h;simp [Nd.key] at this
 | .num _,.ai _,h=>by have:=congrArg (·.1) h;simp [Nd.key] at this
 | .c7 _,.num _,h=>by have:=congrArg (·.1) h;simp [Nd.key] at this
 | .c7 _,.ai _,h=>by have:=congrArg (·.1) h;simp [Nd.key] at this
 | .ai _,.num _,h=>by have:=congrArg (·.1) h;simp [Nd.key] at this
 | .ai _,.c7 _,h=>by have:=congrArg (·.1) h;simp [Nd.key] at this
theorem cE:∀ {a b:Nd},PyData.eqv a.enc b.enc=true->a=b
 | .num n,.num m,h=>by
  have:n=m:=by simpa [Nd.enc,PyData.eqv] using h
  rw [this]
 | .c7 x,.c7 y,h=>by
  have:x=y:=by simpa [Nd.enc,PyData.eqv,PyData.eqvAll] using h
  rw [this]
 | .ai x,.ai y,h=>by
  have:x=y:=by simpa [Nd.enc,PyData.eqv] using h
  rw [this]
 | .num _,.c7 _,h=>by simp [Nd.enc,PyData.eqv] at h
 | .num _,.ai _,h=>by simp [Nd.enc,PyData.eqv] at h
 | .c7 _,.num _,h=>by simp [Nd.enc,PyData.eqv] at h
 | .c7 _,.ai _,h=>by simp [Nd.enc,PyData.eqv] at h
 | .ai _,.num _,h=>by simp [Nd.enc,PyData.eqv] at h
 | .ai _,.c7 _,h=>by simp [Nd.enc,PyData.eqv] at h
theorem fD (a:Nd):PyData.eqv a.enc a.enc=true:=by
 cases a <;> simp [Nd.enc,PyData.eqv,PyData.eqvAll]
theorem jh (a:Nd):noD a.enc=true:=by cases a <;> rfl
theorem i5 (a:Nd):a.enc.depth<=2:=by
 cases a with
 | num n=>simp [Nd.enc,PyData.depth]
 | ai n=>simp [Nd.enc,PyData.depth]
 | c7 n=>simp [Nd.enc,PyData.depth,PyData.depthAll]
theorem vD (a:Nd):fm a.enc=true:=qa (jh a) (Jt (i5 a) (by omega))
theorem rn (xs:List Nd):fm (.list (xs.map Nd.enc))=true:=by
 refine qa ?_ (Jt (nE (k:=2) fun d hd=>?_) (by omega))
 ·simp only [noD];exact fz.mpr fun d hd=>by
   obtain ⟨x,_,rfl⟩:=Jz.mp hd;exact jh x
 ·obtain ⟨x,_,rfl⟩:=Jz.mp hd;exact i5 x
theorem BG (a:Nd):hk6 a.enc=true:=by
 unfold hk6;rw [Jx];exact ⟨by cases a <;> rfl,Jq (Jt (i5 a) (by omega))⟩
theorem yK {a:Nd} {Q:PR->List PyData->Prop} (q:Q (.dat (.str (match a with | .num _ => "number" | .c7 _ => "said" | .ai _ => "thing"))) []):WF dW [a.enc] Q:=by
 refine cM rfl ?_;unfold iu;cases a <;> (unfold Nd.enc;walk_at "pp"; exact q)
theorem vE {a:Nd} {Q:PR->List PyData->Prop} (q:Q (.dat (CH a.key)) []):WF bo [a.enc] Q:=by
 refine cM rfl ?_;unfold gb;walk_at "pp";refine ab (ds:=[a.enc]) (is:=[]) rfl rfl (yK ⟨rfl,?_⟩);walk_at "n";cases a with
 | num n =>
  unfold Nd.enc;walk_at "pp";exact q
 | c7 n =>
  unfold Nd.enc;walk_at "pp";exact q
 | ai n =>
  unfold Nd.enc;walk_at "pp";exact q
noncomputable def Nd.sm (a:Nd):Prop:=match a with | .num n=>-1000000000000000000000000000000 < n/\n < 1000000000000000000000000000000 | .c7 x=>Ltr x/\x.length<=8 | .ai x=>Ltr x/\x.length<=8/\0 < x.length
noncomputable def Nd.kd:Nd->Int | .num _=>0 | .c7 _=>1 | .ai _=>2
theorem d6 {a:Nd} {Q:PR->List PyData->Prop} (q:Q (.dat (.int a.kd)) []):WF cb [a.enc] Q:=by
 refine cM rfl ?_;unfold p5;cases a <;> (unfold Nd.enc;walk_at "pp"; exact q)
theorem lt_str {x y:Str}:(if x=y then false else decide (x.cps.toList < y.cps.toList))=decide (x.cps.toList < y.cps.toList):=by
 split
 ·rename_i h;rw [h,Jy (Ly _)]
 ·rfl
theorem EG {e:En} {x y:AV} {d d':PyData} {z:Bool} {Q:RV->En->Prop} (h1:aA e [x,y]=some [d,d']) (h2:Dh d d'=some (.dat (.bool z))) (q:Q (.dat (.bool z)) e):WPr DO [x,y] e Q:=⟨_,.dat (.bool z),h1,h2,q⟩
theorem sO {a b:Nd} {Q:PR->List PyData->Prop} (q:Q (.dat (.bool (ltN a b))) []):WF f7 [a.enc,b.enc] Q:=by
 refine cM rfl ?_;unfold jV;walk_at "pp";refine ab (ds:=[a.enc]) (is:=[]) rfl rfl (d6 ⟨rfl,?_⟩);walk_at "n";walk_at "pp";refine ab (ds:=[b.enc]) (is:=[]) rfl rfl (d6 ⟨rfl,?_⟩);walk_at "n";walk_at "pp";by_cases hk:a.kd=b.kd
 ·rw [hk];refine uj (by simp [PyData.eqv]) ?_;walk_at "pp";refine EG (d:=a.enc) (d':=b.enc) (z:=ltN a b) rfl ?_ (by walk_at "pp"; exact q);cases a with
  | num n =>
   cases b with
   | num m =>
    have:decide (n < m)=ltN (.num n) (.num m):=by
     unfold ltN ltK;show decide (n < m)=(if n=m then decide ((Str.ofString "").cps.toList < (Str.ofString "").cps.toList) else decide (n < m));split
     ·rename_i h;rw [h,Jy (Ly _)];exact Jy (by omega)
     ·rfl
    rw [<- this];rfl
   | c7 y=>cases hk
   | ai y=>cases hk
  | c7 x =>
   cases b with
   | num m=>cases hk
   | c7 y =>
    have:(if x=y then false else decide (x.cps.toList < y.cps.toList))=ltN (.c7 x) (.c7 y):=lt_str;rw [<- this];rfl
   | ai y=>cases hk
  | ai x =>
   cases b with
   | num m=>cases hk
   | c7 y=>cases hk
   | ai y=>rfl
 ·refine ye (by simp [PyData.eqv,hk]) ?_;walk_at "pp";refine ab (ds:=[a.enc]) (is:=[]) rfl rfl (d6 ⟨rfl,?_⟩);walk_at "n";walk_at "pp";refine ab (ds:=[b.enc]) (is:=[]) rfl rfl (d6 ⟨rfl,?_⟩);walk_at "n";walk_at "pp";have e:ltN a b=decide (a.kd < b.kd):=by
   have h1:∀ a:Nd,a.key.1=a.kd:=fun a=>by cases a <;> rfl
   unfold ltN ltK;rw [h1,h1,IU hk]
  rw [e] at q;exact q
structure Fc where
 t:Str
 b:Str
 n:Nd
noncomputable def Fc.enc (f:Fc):PyData:=.tuple [.str f.t,.str f.b,f.n.enc]
noncomputable def Nam (x:Str):Prop:=Ltr x/\x.length<=8/\0 < x.length
noncomputable def Fc.sm (f:Fc):Prop:=Nam f.t/\Nam f.b/\f.n.sm
noncomputable def Fc.key (f:Fc):Fy:=(f.t,f.b,f.n.key)
noncomputable def v3 (a b:Fc):Bool:=ltF a.key b.key
theorem jr {a b:Fc} (h:a.key=b.key):a=b:=by
 obtain ⟨a1,a2,a3⟩:=a;obtain ⟨b1,b2,b3⟩:=b;have h1:a1=b1:=congrArg (·.1) h;have h2:a2=b2:=congrArg (·.2.1) h;have h3:a3=b3:=iX (congrArg (·.2.2) h);rw [h1,h2,h3]
theorem ue {a b:Fc} (h:PyData.eqv a.enc b.enc=true):a=b:=by
 obtain ⟨a1,a2,a3⟩:=a;obtain ⟨b1,b2,b3⟩:=b;have h:a1=b1/\a2=b2/\PyData.eqv a3.enc b3.enc=true:=by simpa [Fc.enc,PyData.eqv,PyData.eqvAll] using h
 rw [h.1,h.2.1,cE h.2.2]
theorem oH (a:Fc):PyData.eqv a.enc a.enc=true:=by
 simp [Fc.enc,PyData.eqv,PyData.eqvAll,fD]
theorem uo (a:Fc):noD a.enc=true:=by
 simp [Fc.enc,noD,cj,jh]
theorem tX (a:Fc):a.enc.depth<=3:=by
 refine kX (k:=2) fun d hd=>?_;simp only [Jb,LP,K4] at hd;rcases hd with rfl | rfl | rfl
 ·simp [PyData.depth]
 ·simp [PyData.depth]
 ·exact i5 _
theorem xX (a:Fc):hk6 a.enc=true:=by
 unfold hk6;rw [Jx];refine ⟨?_,Jq (Jt (tX a) (by omega))⟩;obtain ⟨t,b,n⟩:=a;cases n <;> rfl
theorem yO {a:Fc} {Q:PR->List PyData->Prop} (q:Q (.dat (.tuple [.str a.t,.str a.b,CH a.n.key])) []):WF bL [a.enc] Q:=by
 refine cM rfl ?_;unfold gc Fc.enc;walk_at "pp";refine ab (ds:=[a.n.enc]) (is:=[]) rfl rfl (vE ⟨rfl,?_⟩);walk_at "n";walk_at "pp";exact q
structure Lo {α:Type} (lt:α->α->Bool):Prop where
 irr:∀ a,lt a a=false
 tr:∀ {a b c},lt a b=true->lt b c=true->lt a c=true
 tot:∀ {a b},lt a b=false->lt b a=false->a=b
noncomputable abbrev Srt {α:Type} (lt:α->α->Bool) (L:List α):Prop:=L.Pairwise fun x y=>lt x y=true
section
variable {α:Type} {lt:α->α->Bool} (O:Lo lt)
include O
theorem fu (a:α):∀ {L:List α},Srt lt L->L.filter (fun b=>lt b a)++L.filter (fun b=>!lt b a)=L
 | [],_=>rfl
 | x :: r,h=>by
  obtain ⟨h1,h2⟩:=JM.mp h;by_cases hx:lt x a=true
  ·rw [Kk (p:=fun b=>lt b a) hx,Kl (by simp [hx]),LS,fu a h2]
  ·have hx:lt x a=false:=by simpa using hx
   have hr:r.filter (fun b=>lt b a)=[]:=by
    rw [List.filter_eq_nil_iff];intro y hy hya;rw [O.tr (h1 y hy) hya] at hx;cases hx
   have hq:r.filter (fun b=>!lt b a)=r:=by
    have:=fu a h2;rw [hr] at this;exact this
   rw [Kl (by simp [hx]),Kk (by simp [hx]),hr,hq];rfl
theorem bG {L:List α} (h:Srt lt L):L.Nodup:=h.imp fun {a b} z e=>by rw [e,O.irr] at z;cases z
theorem xC {L M:List α} (h1:Srt lt L) (h2:Srt lt M) (h:∀ a,a∈L↔a∈M):L=M:=by
 refine K6 (le:=fun x y=>lt x y=true) (fun a b _ _ z w=>?_) h1 h2 ?_
 ·have:=O.tr z w;rw [O.irr] at this;cases this
 ·exact (Lx (bG O h1) (bG O h2)).mpr h
theorem ql {L:List α} {a:α} (h:Srt lt L) (hn:a ∉ L):∃ F G,L=F++G/\L.filter (fun b=>lt b a)=F/\Srt lt (F++a :: G):=by
 refine ⟨L.filter (fun b=>lt b a),L.filter (fun b=>!lt b a),(fu O a h).symm,rfl,?_⟩;have h':=h;rw [<- fu O a h] at h';obtain ⟨p1,p2,p3⟩:=Ji.mp h';have h2:∀ g∈L.filter (fun b=>!lt b a),lt a g=true:=fun g hg=>by
  obtain ⟨z1,z2⟩:=Ko.mp hg;rw [KA] at z2;cases e:lt a g with
  | true=>rfl
  | false=>exact absurd (O.tot e z2▸z1) hn
 refine Ji.mpr ⟨p1,JM.mpr ⟨h2,p2⟩,fun f hf g hg=>?_⟩;rcases Jb.mp hg with rfl | hg
 ·exact (Ko.mp hf).2
 ·exact p3 f hf g hg
theorem vI:∀ gs:List α,∃ L:List α,Srt lt L/\∀ a,a∈L↔a∈gs
 | []=>⟨[],.nil,fun _=>Iff.rfl⟩
 | a :: gs=>by
  obtain ⟨L,hL,hm⟩:=vI gs;by_cases h:a∈L
  ·exact ⟨L,hL,fun b=>by
    rw [Jb,<-hm b]
    exact ⟨.inr,fun z=>z.elim (fun e=>e▸h) id⟩⟩
  ·obtain ⟨F,G,rfl,_,s⟩:=ql O hL h;refine ⟨F++a :: G,s,fun b=>?_⟩;rw [Jb,<-hm b,Jv,Jv,Jb];exact ⟨fun z=>z.elim (fun z=>.inr (.inl z)) fun z=>z.elim .inl fun z=>.inr (.inr z),fun z=>z.elim (fun z=>.inr (.inl z)) fun z=>z.elim .inl fun z=>.inr (.inr z)⟩
end
section
variable {α:Type} {enc:α->PyData} (inj:∀ {a b:α},PyData.eqv (enc a) (enc b)=true->a=b) (rfl_:∀ a,PyData.eqv (enc a) (enc a)=true)
noncomputable abbrev kvs (enc:α->PyData) (U:List α):List (PyData×PyData):=U.map fun a=>(enc a,PyData.bool true)
theorem fF {U:List α}:(kvs enc U).map (·.1)=U.map enc:=by unfold kvs;rw [KI];rfl
include inj rfl_
theorem sy {ns U:List α} {i:Nat} {a:α} (hU:U.Nodup) (hM:∀ a,a∈U↔a∈ns.take i) (hz:U.length<=i) (ha:ns[i]?=some a):∃ V:List α,putD (kvs enc U) (enc a) (.bool true)=kvs enc V/\V.Nodup/\(∀ b,b∈V↔b∈ns.take (i+1))/\V.length<=i+1:=by
 by_cases h:a∈U
 ·refine ⟨U,?_,hU,fun b=>?_,by omega⟩
  ·unfold putD;rw [IV (by rw [LU];exact ⟨_,Jz.mpr ⟨a,h,rfl⟩,rfl_ a⟩),KI];refine List.map_congr_left fun b _=>?_;show (if PyData.eqv (enc b) (enc a)=true then (enc b,PyData.bool true) else (enc b,PyData.bool true))=_;split <;> rfl
  ·rw [<- KL ha,Jv,hM b];exact ⟨.inl,fun z=>z.elim id fun z=>by rw [Ja.mp z];exact (hM a).mp h⟩
 ·refine ⟨U++[a],?_,JL.mpr ⟨hU,by simp,fun x hx y hy e=>h (Ja.mp hy▸e▸hx)⟩,fun b=>?_,by rw [IH];show _+1<=_;omega⟩
  ·unfold putD;rw [IU (fun z=>?_)]
   ·unfold kvs;rw [Ju];rfl
   ·rw [LU] at z;obtain ⟨x,hx,e⟩:=z;obtain ⟨b,hb,rfl⟩:=Jz.mp hx;exact h (inj e▸hb)
  ·rw [<- KL ha,Jv,Jv,hM b]
theorem jm {a:α}:∀ {L:List α},oC (L.map enc) (enc a)=true↔a∈L
 | []=>by simp [oC]
 | b :: L=>by
  have ih:=jm (a:=a) (L:=L);unfold oC at ih ⊢;rw [List.map_cons,Lm,Bool.or_eq_true,ih,Jb];exact ⟨fun z=>z.elim (fun z=>.inl (inj z).symm) .inr,fun z=>z.elim (fun e=>.inl (e▸rfl_ _)) .inr⟩
end
theorem vy {e:En} {x y:AV} {d:PyData} {ds:List PyData} {Q:RV->En->Prop} (h1:aA e [x,y]=some [d,.list ds]) (h2:oD d=true) (h3:cj ds=true) (q:Q (.dat (.bool (!oC ds d))) e):WPr gN [x,y] e Q:=by
 refine ⟨_,.dat (.bool (!oC ds d)),h1,?_,q⟩;cases d with
 | dict kvs=>simp [oD,noD] at h2
 | _=>(show (if oD _=true/\cj ds=true then some (PR.dat (.bool (ngB true (oC ds _)))) else none)=_);rw [IV ⟨h2,h3⟩];rfl
theorem loN:Lo ltN:=⟨fun a=>iY _,fun h1 h2=>o8 h1 h2,fun {a b} h h2=>by
 apply Kx;intro hn;have:=lC (fun z=>hn (iX z)) h;unfold ltN at h2;rw [this] at h2
 cases h2⟩
theorem loF:Lo v3:=⟨fun a=>qx _,fun h1 h2=>vW h1 h2,fun {a b} h h2=>by
 apply Kx;intro hn;have:=r9 (fun z=>hn (jr z)) h;unfold v3 at h2;rw [this] at h2
 cases h2⟩
noncomputable def chB (c:Nat):Bool:=decide (97<=c)&&decide (c<=122)
noncomputable def oB (d:PyData) (k:Int):Bool:=match d with
 | .str x=>decide (k<=(x.length:Int))&&(decide ((x.length:Int)<=8)&&x.cps.toList.all chB)
 | _=>false
theorem Iu (c:Nat):leS (Str.ofString "a") ⟨#[c]⟩=decide (97<=c):=by
 have e:(Str.ofString "a").cps.toList=[97]:=by decide +kernel
 unfold leS;rw [e];by_cases h:97<=c
 ·rw [Jq h,Jy]
  ·rfl
  ·intro z;have:c < 97:=by simpa [LY] using z
   omega
 ·rw [Jy h,Jq]
  ·rfl
  ·simp [LY];omega
theorem Ic (c:Nat):leS ⟨#[c]⟩ (Str.ofString "z")=decide (c<=122):=by
 have e:(Str.ofString "z").cps.toList=[122]:=by decide +kernel
 unfold leS;rw [e];by_cases h:c<=122
 ·rw [Jq h,Jy]
  ·rfl
  ·intro z;have:122 < c:=by simpa [LY] using z
   omega
 ·rw [Jy h,Jq]
  ·rfl
  ·simp [LY];omega
theorem cL {d:PyData} {k:Int} {Q:PR->List PyData->Prop} (q:Q (.dat (.bool (oB d k))) []):WF aV [d,.int k] Q:=by
 refine cM rfl ?_;unfold cO;cases d with
 | str x =>
  replace q:Q (.dat (.bool (decide (k<=(x.length:Int))&&(decide ((x.length:Int)<=8)&&x.cps.toList.all chB)))) []:=q;walk_at "pp";refine cV (fun c1=>?_) (fun c1=>?_)
  ·have c1:decide (k<=(x.length:Int))=true:=c1;walk_at "pp";rw [c1,KN] at q;refine cV (fun c2=>?_) (fun c2=>?_)
   ·have c2:(!decide ((x.length:Int)<=8))=true:=c2;have c2:decide ((x.length:Int)<=8)=false:=by simpa using c2
    walk_at "pp";rw [c2] at q;exact q
   ·have c2:(!decide ((x.length:Int)<=8))=false:=c2;have c2:decide ((x.length:Int)<=8)=true:=by simpa using c2
    rw [c2,KN] at q;walk_at "pp";refine cz (fun i ys ec=>ys=((x.cps.toList.take i).map chB).map .bool/\ec=[]) ⟨rfl,rfl⟩ ?_ ?_
    ·rintro i d ys ec hd ⟨rfl,rfl⟩;rw [IX] at hd;obtain ⟨c,hc,rfl⟩:=Jd.mp hd;have e0:((x.cps.toList.take (i+1)).map chB).map PyData.bool=((x.cps.toList.take i).map chB).map PyData.bool++[.bool (chB c)]:=by rw [<- KL hc,Ju,Ju];rfl
     refine e8 ?_;walk_at "pp";have e1:=Iu c;have e2:=Ic c;refine cV (fun d1=>?_) (fun d1=>?_)
     ·have d1:leS (Str.ofString "a") ⟨#[c]⟩=true:=d1;walk_at "pp";refine ⟨?_,rfl⟩;rw [e0];unfold chB;rw [<- e1,d1,<-e2];rfl
     ·have d1:leS (Str.ofString "a") ⟨#[c]⟩=false:=d1;walk_at "pp";refine ⟨?_,rfl⟩;rw [e0];unfold chB;rw [<- e1,d1];rfl
    ·rintro ys ec ⟨rfl,rfl⟩;rw [II,J2];walk_at "n";walk_at "pp";refine w_all (bs:=x.cps.toList.map chB) rfl ?_;have e3:(x.cps.toList.map chB).all id=x.cps.toList.all chB:=by rw [List.all_map];rfl
     rw [e3];walk_at "pp";exact q
  ·have c1:decide (k<=(x.length:Int))=false:=c1;walk_at "pp";rw [c1] at q;exact q
 | _ =>
  walk_at "pp";exact q
theorem dU {d:PyData} {Q:PR->List PyData->Prop} (q:Q (.dat (.bool (oB d 1))) []):WF bz [d] Q:=by
 refine cM rfl ?_;unfold iy;walk_at "pp";refine ab (is:=[]) rfl rfl (cL ⟨rfl,?_⟩);walk_at "pp";exact q
noncomputable def whB:PyData->Bool
 | .int _=>true
 | _=>false
theorem kL {d:PyData} {Q:PR->List PyData->Prop} (q:Q (.dat (.bool (whB d))) []):WF c0 [d] Q:=by
 refine cM rfl ?_;unfold fM;cases d <;> (walk_at "pp"; exact q)
noncomputable def DU:PyData->Bool
 | .int i=>decide ((if i < 0 then -i else i)<=999999999999999999999999999999)
 | _=>false
theorem jY {d:PyData} {Q:PR->List PyData->Prop} (q:Q (.dat (.bool (DU d))) []):WF cC [d] Q:=by
 refine cM rfl ?_;unfold eM;walk_at "pp";refine ab (is:=[]) rfl rfl (kL ⟨rfl,?_⟩);cases d <;> (walk_at "pp"; exact q)
noncomputable def x9:PyData->Bool
 | .tuple [x]=>oB x 0
 | _=>false
theorem nO {d:PyData} {Q:PR->List PyData->Prop} (q:Q (.dat (.bool (x9 d))) []):WF eH [d] Q:=by
 refine cM rfl ?_;unfold iA;cases d with
 | tuple ds =>
  match ds,q with
  | [],q=>walk_at "pp"; exact q
  | [x],q =>
   walk_at "pp";refine ab (is:=[]) rfl rfl (cL ⟨rfl,?_⟩);walk_at "pp";exact q
  | x :: y :: r,q =>
   walk_at "pp";exact q
 | _ =>
  walk_at "pp";exact q
noncomputable def ll (d:PyData):Bool:=oB d 1||(DU d||x9 d)
theorem nW {d:PyData} {Q:PR->List PyData->Prop} (q:Q (.dat (.bool (ll d))) []):WF dR [d] Q:=by
 refine cM rfl ?_;unfold iH;unfold ll at q;walk_at "pp";refine ab (is:=[]) rfl rfl (dU ⟨rfl,?_⟩);walk_at "pp";refine cV (fun c=>?_) (fun c=>?_)
 ·rw [c,Bool.true_or] at q;walk_at "pp";exact q
 ·rw [c,Bool.false_or] at q;walk_at "pp";refine ab (is:=[]) rfl rfl (jY ⟨rfl,?_⟩);walk_at "pp";refine cV (fun c=>?_) (fun c=>?_)
  ·rw [c,Bool.true_or] at q;walk_at "pp";exact q
  ·rw [c,Bool.false_or] at q;walk_at "pp";refine ab (is:=[]) rfl rfl (nO ⟨rfl,?_⟩);walk_at "pp";exact q
noncomputable def yG:PyData->Bool
 | .tuple [a,b,c]=>oB a 1&&(oB b 1&&ll c)
 | _=>false
theorem Hw:∀ (ds:List PyData),(∃ a b c,ds=[a,b,c])\/(ds.length≠3/\yG (.tuple ds)=false)
 | []=>.inr ⟨by decide,rfl⟩
 | [a]=>.inr ⟨by simp,rfl⟩
 | [a,b]=>.inr ⟨by simp,rfl⟩
 | [a,b,c]=>.inl ⟨a,b,c,rfl⟩
 | a :: b :: c :: d :: r=>.inr ⟨by simp,rfl⟩
theorem nV {d:PyData} {Q:PR->List PyData->Prop} (q:Q (.dat (.bool (yG d))) []):WF eD [d] Q:=by
 refine cM rfl ?_;unfold iz;cases d with
 | tuple ds =>
  rcases Hw ds with ⟨a,b,c,rfl⟩ | ⟨hn,hf⟩
  ·replace q:Q (.dat (.bool (oB a 1&&(oB b 1&&ll c)))) []:=q;walk_at "pp";refine ab (is:=[]) rfl rfl (dU ⟨rfl,?_⟩);walk_at "pp";refine cV (fun c1=>?_) (fun c1=>?_)
   ·rw [c1,KN] at q;walk_at "pp";refine ab (is:=[]) rfl rfl (dU ⟨rfl,?_⟩);walk_at "pp";refine cV (fun c2=>?_) (fun c2=>?_)
    ·rw [c2,KN] at q;walk_at "pp";refine ab (is:=[]) rfl rfl (nW ⟨rfl,?_⟩);walk_at "pp";exact q
    ·rw [c2] at q;walk_at "pp";exact q
   ·rw [c1] at q;walk_at "pp";exact q
  ·walk_at "pp";have hq:PyData.eqv (.int (ds.length:Int)) (.int 3)=false:=by
    simp only [PyData.eqv];rw [beq_eq_false_iff_ne];omega
   refine ye (by show (!PyData.eqv (.int (ds.length:Int)) (.int 3))=true;rw [hq];rfl) ?_;walk_at "pp";rw [hf] at q;exact q
 | _ =>
  walk_at "pp";exact q
theorem iU {x:Str} (h:Nam x):oB (.str x) 1=true:=by
 obtain ⟨h1,h2,h3⟩:=h;show (decide ((1:Int)<=(x.length:Int))&&(decide ((x.length:Int)<=8)&&x.cps.toList.all chB))=true;rw [Jq (by omega),Jq (by omega),KN,KN,Lj];intro c hc;have:=h1 c hc;unfold chB;rw [Jq this.1,Jq this.2];rfl
theorem vn {a:Nd} (h:a.sm):ll a.enc=true:=by
 unfold ll;cases a with
 | num n =>
  have h:-1000000000000000000000000000000 < n/\n < 1000000000000000000000000000000:=h;have:DU (Nd.enc (.num n))=true:=by
   show decide ((if n < 0 then -n else n)<=999999999999999999999999999999)=true;refine Jq ?_;split <;> omega
  rw [this];simp
 | c7 x =>
  have h:Ltr x/\x.length<=8:=h;have:x9 (Nd.enc (.c7 x))=true:=by
   show (decide ((0:Int)<=(x.length:Int))&&(decide ((x.length:Int)<=8)&&x.cps.toList.all chB))=true;rw [Jq (by omega),Jq (by omega),KN,KN,Lj];intro c hc;have:=h.1 c hc;unfold chB;rw [Jq this.1,Jq this.2];rfl
  rw [this];simp
 | ai x =>
  have:oB (Nd.enc (.ai x)) 1=true:=iU h;rw [this];rfl
theorem tT {f:Fc} (h:f.sm):yG f.enc=true:=by
 show (oB _ 1&&(oB _ 1&&ll _))=true;rw [iU h.1,iU h.2.1,vn h.2.2];rfl
theorem Hq (a:Nd):Sg.vM kyS bo a.enc=some a.key:=by
 obtain ⟨pr,outs,h,rfl,rfl⟩:=vE (a:=a) (Q:=fun pr outs=>pr=.dat (CH a.key)/\outs=[]) ⟨rfl,rfl⟩;unfold Sg.vM;rw [h];rfl
theorem Dl (a:Fc):Sg.vM fyS bL a.enc=some a.key:=by
 obtain ⟨pr,outs,h,rfl,rfl⟩:=yO (a:=a) (Q:=fun pr outs=>pr=.dat (.tuple [.str a.t,.str a.b,CH a.n.key])/\outs=[]) ⟨rfl,rfl⟩;unfold Sg.vM;rw [h];rfl
theorem kG {α:Type} {S:KS} {f:Fn} {enc:α->PyData} {key:α->S.κ} (h:∀ a,Sg.vM S f (enc a)=some (key a)):∀ U:List α,Sg.jg S f (U.map enc)=some (U.map key)
 | []=>rfl
 | a :: U=>by
  rw [List.map_cons,List.map_cons];unfold Sg.jg;rw [h,kG h U]
theorem fC {α κ:Type} {key:α->κ} (inj:∀ {a b},key a=key b->a=b) {U:List α} (h:U.Nodup):(U.map key).Nodup:=by
 unfold List.Nodup;rw [LH];exact h.imp fun {a b} z e=>z (inj e)
theorem qX {ns L:List Nd} {Q:PR->List PyData->Prop} (hl:ns.length<=200) (hL:Srt ltN L) (hm:∀ a,a∈L↔a∈ns) (q:Q (.frs (.list (L.map Nd.enc))) []):WF cT [.list (ns.map Nd.enc)] Q:=by
 refine cM rfl ?_;unfold fY;walk_at "pp";refine fg rfl (bg (fun i e=>∃ U:List Nd,U.Nodup/\(∀ a,a∈U↔a∈ns.take i)/\U.length<=i/\jU [some (.dat (.list (ns.map Nd.enc))),some (.own (.dict (kvs Nd.enc U))),none] e) ⟨[],.nil,fun a=>by simp,IY _,by walk_at "L"⟩ ?_ ?_)
 ·rintro i d e hd ⟨U,hU,hM,hz,_⟩;walk_at "l";rw [IX] at hd;obtain ⟨a,ha,rfl⟩:=Jd.mp hd;have hi:i < ns.length:=(IK.mp ha).1;walk_at "f";walk_at "pp";refine wJ (v:=.bool true) (k:=Nd.enc a) (kvs:=kvs Nd.enc U) rfl rfl (BG a) (by rw [II];show _ < 2 ^ 24;omega) ?_;obtain ⟨V,eV,h1,h2,h3⟩:=sy cE fD hU hM hz ha;rw [eV];exact ⟨V,h1,h2,h3,by walk_at "L"⟩
 ·rintro e ⟨U,hU,hM,hz,_⟩;walk_at "l";rw [II,J2] at hM;rw [II] at hz;walk_at "pp";refine qr (S:=kyS) (kvs:=kvs Nd.enc U) (ks:=U.map Nd.key) rfl (by rw [fF];exact kG Hq U) (by rw [II];omega) (fC iX hU) ?_;intro r hr;rw [fF] at hr;rw [show r=L.map Nd.enc from hr.trans (wj (S:=kyS) Nd.key Nd.enc (fC iX hU) hL ((Lx (bG loN hL) hU).mpr fun a=>(hm a).trans (hM a).symm))];walk_at "pp";exact q
theorem sg {ns L:List Fc} {Q:PR->List PyData->Prop} (hl:ns.length<=200) (hL:Srt v3 L) (hm:∀ a,a∈L↔a∈ns) (q:Q (.frs (.list (L.map Fc.enc))) []):WF aS [.list (ns.map Fc.enc)] Q:=by
 refine cM rfl ?_;unfold bx;walk_at "pp";refine fg rfl (bg (fun i e=>∃ U:List Fc,U.Nodup/\(∀ a,a∈U↔a∈ns.take i)/\U.length<=i/\jU [some (.dat (.list (ns.map Fc.enc))),some (.own (.dict (kvs Fc.enc U))),none] e) ⟨[],.nil,fun a=>by simp,IY _,by walk_at "L"⟩ ?_ ?_)
 ·rintro i d e hd ⟨U,hU,hM,hz,_⟩;walk_at "l";rw [IX] at hd;obtain ⟨a,ha,rfl⟩:=Jd.mp hd;have hi:i < ns.length:=(IK.mp ha).1;walk_at "f";walk_at "pp";refine wJ (v:=.bool true) (k:=Fc.enc a) (kvs:=kvs Fc.enc U) rfl rfl (xX a) (by rw [II];show _ < 2 ^ 24;omega) ?_;obtain ⟨V,eV,h1,h2,h3⟩:=sy ue oH hU hM hz ha;rw [eV];exact ⟨V,h1,h2,h3,by walk_at "L"⟩
 ·rintro e ⟨U,hU,hM,hz,_⟩;walk_at "l";rw [II,J2] at hM;rw [II] at hz;walk_at "pp";refine qr (S:=fyS) (kvs:=kvs Fc.enc U) (ks:=U.map Fc.key) rfl (by rw [fF];exact kG Dl U) (by rw [II];omega) (fC jr hU) ?_;intro r hr;rw [fF] at hr;rw [show r=L.map Fc.enc from hr.trans (wj (S:=fyS) Fc.key Fc.enc (fC jr hU) hL ((Lx (bG loF hL) hU).mpr fun a=>(hm a).trans (hM a).symm))];walk_at "pp";exact q
theorem BD {ns:List Fc} {Q:PR->List PyData->Prop} (hs:∀ a∈ns,a.sm) (q:Q (.dat (.bool true)) []):WF cv [.list (ns.map Fc.enc)] Q:=by
 refine cM rfl ?_;unfold fb;walk_at "pp";refine fg rfl (cz (fun j ys ec=>ys=(List.replicate j (PyData.bool true))/\ec=[]) ⟨rfl,rfl⟩ ?_ ?_)
 ·rintro j d ys ec hd ⟨rfl,rfl⟩;rw [IX] at hd;obtain ⟨a,ha,rfl⟩:=Jd.mp hd;refine e8 ?_;walk_at "pp";refine ab (ds:=[a.enc]) (is:=[]) rfl rfl (nV ⟨rfl,?_⟩);rw [tT (hs a (Jl ha))];walk_at "pp";refine ⟨?_,rfl⟩;rw [List.replicate_succ'];rfl
 ·rintro ys ec ⟨rfl,rfl⟩;walk_at "n";walk_at "pp";refine w_all (bs:=List.replicate _ true) (by rw [List.map_replicate];rfl) ?_;rw [show ∀ n,(List.replicate n true).all id=true from fun n=>by simp];walk_at "pp";exact q
theorem Bj {ns L:List Fc} {Q:PR->List PyData->Prop} (hs:∀ a∈ns,a.sm) (hl:ns.length<=200) (hL:Srt v3 L) (hm:∀ a,a∈L↔a∈ns) (h4:L.length<=400) (q:Q (.dat (.tuple (L.map Fc.enc))) []):WF fR [.list (ns.map Fc.enc)] Q:=by
 refine cM rfl ?_;unfold jZ;walk_at "pp";refine ab (ds:=[.list (ns.map Fc.enc)]) (is:=[]) rfl rfl (BD hs ⟨rfl,?_⟩);walk_at "pp";refine ab (ds:=[.list (ns.map Fc.enc)]) (is:=[]) rfl rfl (sg hl hL hm ⟨rfl,?_⟩);walk_at "pp";refine uj (Jy (by rw [II];omega)) ?_;walk_at "pp";exact q
theorem pT {ns:List Nd} {Q:PR->List PyData->Prop} (hl:ns.length<=200) (q:∀ L:List Nd,Srt ltN L->(∀ a,a∈L↔a∈ns)->Q (.frs (.list (L.map Nd.enc))) []):WF dX [.list (ns.map Nd.enc)] Q:=by
 refine cM rfl ?_;unfold qT;walk_at "pp";refine fg rfl (bg (fun i e=>∃ L:List Nd,Srt ltN L/\(∀ a,a∈L↔a∈ns.take i)/\L.length<=i/\jU [some (.dat (.list (ns.map Nd.enc))),some (.own (.list (L.map Nd.enc))),none] e) ⟨[],.nil,fun a=>by simp,IY _,by walk_at "L"⟩ ?_ ?_)
 ·rintro i d e hd ⟨L,hL,hM,hz,_⟩;walk_at "l";rw [IX] at hd;obtain ⟨a,ha,rfl⟩:=Jd.mp hd;have hi:i < ns.length:=(IK.mp ha).1;walk_at "f";walk_at "pp";refine vy (d:=a.enc) (ds:=L.map Nd.enc) rfl (by cases a <;> simp [Nd.enc,oD,noD,cj,PyData.depth,PyData.depthAll]) (fz.mpr fun d hd=>by obtain ⟨x,_,rfl⟩:=Jz.mp hd;exact jh x) ?_;walk_at "pp";refine cV (fun c1=>?_) (fun c1=>?_)
  ·have hn:a ∉ L:=fun z=>by
    rw [(jm cE fD).mpr z] at c1;cases c1
   obtain ⟨F,G,eL,eF,sL⟩:=ql loN hL hn;walk_at "pp";refine EN rfl rfl ?_;refine cz (fun j ys ec=>ys=((L.take j).filter (fun b=>ltN b a)).map Nd.enc/\ec=[.dat a.enc]) ⟨rfl,rfl⟩ ?_ ?_
   ·rintro j d ys ec hd ⟨rfl,rfl⟩;rw [IX] at hd;obtain ⟨b,hb,rfl⟩:=Jd.mp hd;refine e8 ?_;walk_at "pp";refine ab (ds:=[b.enc,a.enc]) (is:=[]) rfl rfl (sO ⟨rfl,?_⟩);walk_at "pp";refine cV (fun c1=>?_) (fun c1=>?_)
    ·walk_at "pp";refine ⟨?_,rfl⟩;rw [<- KL hb,Lc,Ju,Kk (p:=fun b=>ltN b a) c1];rfl
    ·refine ⟨?_,rfl⟩;rw [<- KL hb,Lc,Kl (by simp [c1])];simp
   rintro ys ec ⟨rfl,rfl⟩;rw [II,J2,eF];walk_at "n";walk_at "pp";subst eL;rw [IH] at hz;have ei:rJ ((F++G).map Nd.enc) F.length a.enc=(F++a :: G).map Nd.enc:=by
    unfold rJ;rw [Ju,List.take_left' (by rw [II]),List.drop_left' (by rw [II]),Ju,List.map_cons]
   refine FG (j:=(F.length:Int)) rfl (by rw [II,IH];show _ < 2 ^ 24;omega) (by rw [II];rfl) (by omega) (by rw [II,IH];omega) ?_;rw [Km,ei];refine ⟨F++a :: G,sL,fun b=>?_,by rw [IH,Jf];omega,by walk_at "L"⟩;rw [<- KL ha,Jv,Jv,<-hM b,Jb,Jv,Ja];exact ⟨fun z=>z.elim (fun z=>.inl (.inl z)) fun z=>z.elim .inr fun z=>.inl (.inr z),fun z=>z.elim (fun z=>z.elim .inl fun z=>.inr (.inr z)) fun z=>.inr (.inl z)⟩
  ·walk_at "pp";have hn:a∈L:=(jm cE fD).mp (by rwa [LA] at c1);refine ⟨L,hL,fun b=>?_,by omega,by walk_at "L"⟩;rw [<- KL ha,Jv,hM b];exact ⟨.inl,fun z=>z.elim id fun z=>by rw [Ja.mp z];exact (hM a).mp hn⟩
 ·rintro e ⟨L,hL,hM,hz,_⟩;walk_at "l";rw [II,J2] at hM;walk_at "pp";exact q L hL hM
local macro_rules | `(tactic| walk_at "d")=>`(tactic| ((repeat walk_at "p");(refine DW (cs:=?c9) (B:=?b9) (pn:=?n9) (m:=?m9) (hi:=?hi9) (hP:=?hP9) ?hb9 ?h09 ?hm9 ?_);(case hi9=>exact rfl);(case hP9=>assumption);(case hb9=>omega);(case h09=>first | decide | omega);(case hm9=>first | decide | omega)))
theorem FH {x:Str} {k:Int} (h:0<=k):(oo x none (some k)).cps.toList=x.cps.toList.take k.toNat:=by
 have:=vb (xs:=x.cps.toList) h;unfold L2.cutD at this;rw [d5] at this;unfold oo;simpa using this
theorem zD:∀ n < 26,abc.cps.toList[n]?=some (97+n):=by decide +kernel
theorem BY {r:Int} (h0:0<=r) (h1:r < 26):atI abc.cps.toList r=some (97+r.toNat):=by
 have:=pv (xs:=abc.cps.toList) (j:=r.toNat) (zD r.toNat (by omega))
 rwa [Int.toNat_of_nonneg h0] at this
theorem Hm {r:Int} (h0:0<=r) (h1:r < 26):Ltr ⟨#[97+r.toNat]⟩:=fun c hc=>by
 have:c=97+r.toNat:=by simpa using hc
 omega
noncomputable abbrev wds:List PyData:=[.str "any", .str "keeps", .str "least", .str "is", .str "all", .str "many"]
theorem e6:∀ w∈wds,∃ z:Str,w=.str z/\z.length<=5/\Ltr z:=by
 intro w h;simp only [Jb,LP,K4] at h;rcases h with rfl | rfl | rfl | rfl | rfl | rfl <;> exact ⟨_,rfl,by decide +kernel,by unfold Ltr;decide +kernel⟩
theorem qk {cs:List Int} {B:Nat} {pn:PyData} {m:Int} {Q:PR->List PyData->Prop} (hP:bS cs B pn) (hb:B < 2 ^ 59) (h0:0<=m) (h1:m<=8) (q:∀ (x:Str) pn',bS cs (B+10) pn'->Ltr x->(x.length:Int)=m->Q (.dat (.str x)) [pn']):WF jn [pn,.int m] Q:=by
 refine cM rfl ?_;unfold qE;walk_at "d";intro w1 pn1 hP1 w10 w11;walk_at "n";walk_at "pp";obtain ⟨d1,hd1,ed1⟩:=atV (xs:=wds) w10 w11;obtain ⟨z1,rfl,hz1,lz1⟩:=e6 d1 hd1;refine q8 rfl ed1 ?_;clear ed1 hd1;walk_at "d";intro w2 pn2 hP2 w20 w21;walk_at "n";walk_at "pp";obtain ⟨d2,hd2,ed2⟩:=atV (xs:=([.str "", .str "", .str "", .str z1]:List PyData)) w20 w21;have hc:∃ z:Str,d2=.str z/\z.length<=5/\Ltr z:=by
  simp only [Jb,LP,K4] at hd2;rcases hd2 with rfl | rfl | rfl | rfl
  ·exact ⟨_,rfl,by decide,by unfold Ltr;decide⟩
  ·exact ⟨_,rfl,by decide,by unfold Ltr;decide⟩
  ·exact ⟨_,rfl,by decide,by unfold Ltr;decide⟩
  ·exact ⟨_,rfl,hz1,lz1⟩
 obtain ⟨z2,rfl,hz2,lz2⟩:=hc;refine q8 rfl ed2 ?_;clear ed2 hd2;walk_at "pp";refine Hs (fun k e=>∃ (x:Str) (pn':PyData),Ltr x/\x.length<=8/\k=8 - x.length/\bS cs (B+2+x.length) pn'/\e=([.ino pn',.dat (.int m),.dat (.str x)]:En)) (8 - z2.length) (by omega) ⟨z2,pn2,lz2,by omega,rfl,hP2.mono (by omega),rfl⟩ ?_;rintro k e hk ⟨x,pn',hx,hxl,rfl,hP',rfl⟩;walk_at "pp";refine cV (fun c1=>?_) (fun c1=>?_)
 ·have c1:(x.length:Int) < m:=J0 c1;walk_at "d";intro w4 pn4 hP4 w40 w41;walk_at "n";walk_at "pp";refine FE rfl (BY w40 w41) ?_;walk_at "pp";refine vA rfl (by rw [iZ];show _<=2 ^ 24;omega) ?_;walk_at "pp";refine ⟨8 - (x.length+1),by omega,_,pn4,yb hx (Hm w40 w41),by rw [lV,iZ];omega,by rw [lV,iZ],by rw [lV,iZ];exact hP4.mono (by omega),rfl⟩
 ·have c1:¬(x.length:Int) < m:=Lb c1;walk_at "pp";have e1:=FH (x:=x) h0;refine q _ pn' (hP'.mono (by omega)) (fun c hc=>?_) ?_
  ·rw [e1] at hc;exact hx c (List.mem_of_mem_take hc)
  ·rw [<- d5,e1,JR,d5];omega
theorem xo {cs:List Int} {B:Nat} {pn:PyData} {ts:List Str} {Q:PR->List PyData->Prop} (hP:bS cs B pn) (hb:B < 2 ^ 58) (ht:0 < ts.length) (ht2:ts.length<=9) (hs:∀ x∈ts,Nam x) (q:∀ (a:Nd) pn',bS cs (B+13) pn'->a.sm->Q (.dat a.enc) [pn']):WF kK [pn,.list (ts.map .str)] Q:=by
 refine cM rfl ?_;unfold oZ;walk_at "d";intro w1 pn1 hP1 w10 w11;walk_at "n";walk_at "pp";refine cV (fun e1=>?_) (fun e1=>?_)
 ·have:(0:Int) < ((ts.map PyData.str).length:Nat):=by rw [II];omega
  have:(((ts.map PyData.str).length:Nat):Int) < 2 ^ 200:=by rw [II];omega
  walk_at "d";intro w2 pn2 hP2 w20 w21;walk_at "n";walk_at "pp";obtain ⟨d,hd,ed⟩:=atV (xs:=ts.map PyData.str) w20 w21;obtain ⟨x,hx,rfl⟩:=Jz.mp hd;refine q8 rfl ed ?_;walk_at "pp";exact q (.ai x) pn2 (hP2.mono (by omega)) (hs x hx)
 walk_at "pp";refine cV (fun e2=>?_) (fun e2=>?_)
 ·walk_at "d";intro w2 pn2 hP2 w20 w21;walk_at "n";walk_at "pp";exact q (.num _) pn2 (hP2.mono (by omega)) ⟨by omega,by omega⟩
 walk_at "pp";refine cV (fun e3=>?_) (fun e3=>?_)
 ·walk_at "d";intro w2 pn2 hP2 w20 w21;walk_at "n";walk_at "pp";have:w2=0\/w2=1:=by omega
  rcases this with rfl | rfl
  ·refine q8 rfl (d:=.int 1) rfl ?_;walk_at "d";intro w3 pn3 hP3 w30 w31;walk_at "n";walk_at "pp";exact q (.num (1*(10 ^ 30 - 1 - w3))) pn3 (hP3.mono (by omega)) ⟨by omega,by omega⟩
  ·refine q8 rfl (d:=.int (-1)) rfl ?_;walk_at "d";intro w3 pn3 hP3 w30 w31;walk_at "n";walk_at "pp";exact q (.num (-1*(10 ^ 30 - 1 - w3))) pn3 (hP3.mono (by omega)) ⟨by omega,by omega⟩
 ·walk_at "pp";refine ab (ds:=[pn1,.int 8]) (is:=[0]) rfl rfl (qk hP1 (by omega) (by decide) (by decide) fun x pn3 hP3 hx hlx=>⟨rfl,?_⟩);walk_at "n";walk_at "d";intro w2 pn2 hP2 w20 w21;walk_at "n";walk_at "pp";obtain ⟨d2,hd2,ed2⟩:=atV (xs:=([.str "", .str "a", .str "is", .str x]:List PyData)) w20 w21;have hc:∃ z:Str,d2=.str z/\z.length<=8/\Ltr z:=by
   simp only [Jb,LP,K4] at hd2;rcases hd2 with rfl | rfl | rfl | rfl
   ·exact ⟨_,rfl,by decide,by unfold Ltr;decide⟩
   ·exact ⟨_,rfl,by decide,by unfold Ltr;decide⟩
   ·exact ⟨_,rfl,by decide,by unfold Ltr;decide⟩
   ·exact ⟨x,rfl,by omega,hx⟩
  obtain ⟨z,rfl,hz,lz⟩:=hc;refine q8 rfl ed2 ?_;walk_at "pp";exact q (.c7 z) pn2 (hP2.mono (by omega)) ⟨lz,hz⟩
theorem mQ:∀ (ss:List Str),cj (ss.map .str)=true
 | []=>by simp [cj]
 | s :: ss=>by simp [cj,noD,mQ ss]
theorem BL {e:En} {x y:AV} {z:Str} (ss:List Str) {Q:RV->En->Prop} (h1:aA e [x,y]=some [.str z,.list (ss.map .str)]) (q:∀ b,(ss=[]->b=true)->Q (.dat (.bool b)) e):WPr gN [x,y] e Q:=by
 refine ⟨_,.dat (.bool (ngB true (oC (ss.map .str) (.str z)))),h1,?_,q _ fun z=>by subst z;rfl⟩;show (if oD (.str z)=true/\cj (ss.map .str)=true then some (PR.dat (.bool (ngB true (oC (ss.map .str) (.str z))))) else none)=_;rw [IV ⟨by simp [oD,noD,PyData.depth],mQ ss⟩]
theorem l6 {cs:List Int} {B:Nat} {pn:PyData} {m:Int} {Q:PR->List PyData->Prop} (hP:bS cs B pn) (hb:B < 2 ^ 57) (h0:0 < m) (h1:m<=9) (q:∀ (xs:List Str) pn',bS cs (B+100) pn'->0 < xs.length->xs.length<=9->(∀ x∈xs,Nam x)->Q (.frs (.list (xs.map .str))) [pn']):WF fG [pn,.int m] Q:=by
 refine cM rfl ?_;unfold mK;walk_at "d";intro w1 pn1 hP1 w10 w11;walk_at "n";walk_at "pp";refine ⟨⟨by omega,by omega⟩,?_⟩;refine bg (fun i e=>∃ (xs:List Str) (pn':PyData),xs.length<=i/\(0 < i->0 < xs.length)/\(∀ x∈xs,Nam x)/\bS cs (B+1+11*i) pn'/\jU [some (.ino pn'),some (.dat (.int m)),some (.own (.list (xs.map .str))),none,none] e) ⟨[],pn1,IY _,fun z=>z,fun x h=>by simp at h,hP1,by walk_at "L"⟩ ?_ ?_
 ·rintro i d e hd ⟨xs,pn',hl,hz,hx,hP',_⟩;walk_at "l";obtain ⟨rfl,hi⟩:=qI hd;walk_at "f";walk_at "d";intro w2 pn2 hP2 w20 w21;walk_at "n";walk_at "pp";refine ab (ds:=[pn2,.int (1+w2)]) (is:=[0]) rfl rfl (qk hP2 (by omega) (by omega) (by omega) fun x pn3 hP3 hx2 hl2=>⟨rfl,?_⟩);walk_at "n";walk_at "pp";refine BL xs rfl fun b hb0=>?_;walk_at "pp";refine cV (fun c1=>?_) (fun c1=>?_)
  ·walk_at "pp";refine vi rfl (by rw [II];show _ < 2 ^ 24;omega) rfl ?_;exact ⟨xs++[x],pn3,by rw [IH];show _+1<=_;omega,fun _=>by simp,my hx ⟨hx2,by omega,by omega⟩,hP3.mono (by omega),by rw [Ju];walk_at "L"⟩
  ·walk_at "pp";refine ⟨xs,pn3,by omega,fun _=>?_,hx,hP3.mono (by omega),by walk_at "L"⟩;cases xs with
   | nil=>rw [hb0 rfl] at c1;cases c1
   | cons a b=>exact Nat.zero_lt_succ _
 ·rintro e ⟨xs,pn',hl,hz,hx,hP',_⟩;walk_at "l";rw [oW] at hl hz hP';walk_at "pp";exact q xs pn' (hP'.mono (by omega)) (hz (by omega)) (by omega) hx
theorem uT {cs:List Int} {B:Nat} {pn:PyData} {ts bs:List Str} {Q:PR->List PyData->Prop} (hP:bS cs B pn) (hb:B < 2 ^ 56) (t0:0 < ts.length) (t9:ts.length<=9) (hs:∀ x∈ts,Nam x) (b0:0 < bs.length) (b9:bs.length<=9) (hs2:∀ x∈bs,Nam x) (q:∀ (fs:List Fc) pn',bS cs (B+2000) pn'->fs.length<=60->(∀ f∈fs,f.sm)->Q (.frs (.list (fs.map Fc.enc))) [pn']):WF jc [pn,.list (ts.map .str),.list (bs.map .str)] Q:=by
 refine cM rfl ?_;unfold m4;walk_at "d";intro w1 pn1 hP1 w10 w11;walk_at "n";walk_at "pz";with_reducible refine wI fun N eN=>?_
 have rest:∀ (m:Int) (pn2:PyData),0<=m->m<=60->bS cs (B+3) pn2->N ([.ino pn2,.dat (.list (ts.map .str)),.ro (.list (bs.map .str)),.dat (.int m),.un,.un,.un]:En):=by
  intro m pn2 m0 m1 hP2;rw [eN];walk_at "pp";refine ⟨⟨by omega,by omega⟩,?_⟩;refine bg (fun i e=>∃ (fs:List Fc) (pn':PyData),fs.length<=i/\(∀ f∈fs,f.sm)/\bS cs (B+3+20*i) pn'/\jU [some (.ino pn'),some (.dat (.list (ts.map .str))),some (.ro (.list (bs.map .str))),none,some (.own (.list (fs.map Fc.enc))),none,none] e) ⟨[],pn2,IY _,fun f h=>by simp at h,hP2,by walk_at "L"⟩ ?_ ?_
  ·rintro i d e hd ⟨fs,pn',hfl,hfs,hP',_⟩;walk_at "l";obtain ⟨rfl,hi⟩:=qI hd;have l1:(0:Int) < ((ts.map PyData.str).length:Nat):=by rw [II];omega
   have l2:(((ts.map PyData.str).length:Nat):Int) < 2 ^ 200:=by rw [II];omega
   have l3:(0:Int) < ((bs.map PyData.str).length:Nat):=by rw [II];omega
   have l4:(((bs.map PyData.str).length:Nat):Int) < 2 ^ 200:=by rw [II];omega
   walk_at "f";walk_at "d";intro w6 pn6 hP6 w60 w61;walk_at "n";walk_at "pp";obtain ⟨d1,hd1,ed1⟩:=atV (xs:=ts.map PyData.str) w60 w61;obtain ⟨x,hx,rfl⟩:=Jz.mp hd1;refine q8 rfl ed1 ?_;walk_at "d";intro w7 pn7 hP7 w70 w71;walk_at "n";walk_at "pp";obtain ⟨d2,hd2,ed2⟩:=atV (xs:=bs.map PyData.str) w70 w71;obtain ⟨y,hy,rfl⟩:=Jz.mp hd2;refine q8 rfl ed2 ?_;walk_at "pp";refine ab (ds:=[pn7,.list (ts.map .str)]) (is:=[0]) rfl rfl (xo hP7 (by omega) t0 t9 hs fun a pn8 hP8 ha=>⟨rfl,?_⟩);walk_at "n";walk_at "pp";refine vy (d:=Fc.enc ⟨x,y,a⟩) (ds:=fs.map Fc.enc) rfl (by cases a <;> simp [Fc.enc,Nd.enc,oD,noD,cj,PyData.depth,PyData.depthAll]) (fz.mpr fun d hd=>by obtain ⟨x,_,rfl⟩:=Jz.mp hd;exact uo x) ?_;walk_at "pp";refine cV (fun c1=>?_) (fun c1=>?_)
   ·walk_at "pp";refine vi rfl (by rw [II];show _ < 2 ^ 24;omega) rfl ?_;exact ⟨fs++[⟨x,y,a⟩],pn8,by rw [IH];show _+1<=_;omega,my hfs ⟨hs x hx,hs2 y hy,ha⟩,hP8.mono (by omega),by rw [Ju];walk_at "L"⟩
   ·walk_at "pp";exact ⟨fs,pn8,by omega,hfs,hP8.mono (by omega),by walk_at "L"⟩
  ·rintro e ⟨fs,pn',hfl,hfs,hP',_⟩;walk_at "l";rw [oW] at hfl hP';walk_at "pp";exact q fs pn' (hP'.mono (by omega)) (by omega) hfs
 walk_at "d";intro w2 pn2 hP2 w20 w21;walk_at "n";walk_at "pp";refine cV (fun c1=>?_) (fun c1=>?_)
 ·walk_at "d";intro w3 pn3 hP3 w30 w31;walk_at "n";walk_at "pp";exact rest _ pn3 (by omega) (by omega) (hP3.mono (by omega))
 ·walk_at "pp";exact rest w1 pn2 (by omega) (by omega) (hP2.mono (by omega))
theorem pO (x y:Str) (c:Nat) (hy:y.cps=#[c]):(decide (y.length<=x.length)&&Builtin.Str.subAt x y 0)=decide (x.cps.toList.head?=some c):=by
 obtain ⟨⟨l⟩⟩:=x;obtain ⟨yc⟩:=y;have hy:yc=#[c]:=hy;subst hy;cases l with
 | nil=>rfl
 | cons a l =>
  unfold Builtin.Str.subAt;have e1:decide ((⟨#[c]⟩:Str).length<=(⟨⟨a :: l⟩⟩:Str).length)=true:=Jq (by show 1<=(a :: l).length;simp);rw [e1,KN];have e2:((⟨⟨a :: l⟩⟩:Str).cps.extract 0 (0+(⟨#[c]⟩:Str).length))=#[a]:=by
   show (⟨a :: l⟩:Array Nat).extract 0 1=#[a];simp
  rw [e2];show ((#[a]:Array Nat)==#[c])=decide (some a=some c);by_cases h:a=c
  ·subst h;simp
  ·rw [Jy (by simpa using h)];simp [h]
theorem D5 {x:Str} {k:Int} (h:0<=k):(oo x (some k) none).cps.toList=x.cps.toList.drop k.toNat:=by
 unfold oo;have e1:HT.sIx x.length 0 (some k)=min k.toNat x.length:=by
  simp only [HT.sIx];rw [IU (by omega)]
 have e2:HT.sIx x.length x.length none=x.length:=rfl;rw [e1,e2];show (((x.cps.toList.drop (min k.toNat x.length)).take (x.length - min k.toNat x.length)).toArray).toList=_;rw [J7 (by rw [Ki,d5];omega)];by_cases z:k.toNat<=x.length
 ·rw [Nat.min_eq_left z]
 ·rw [List.drop_of_length_le (by rw [d5];omega),List.drop_of_length_le (by rw [d5];omega)]
theorem wV {x:Str} (h:Ltr x):(decide ((Str.ofString "^").length<=x.length)&&Builtin.Str.subAt x "^" 0)=false:=by
 rw [pO x (Str.ofString "^") 94 rfl];refine Jy fun z=>?_;cases e:x.cps.toList with
 | nil=>rw [e] at z;cases z
 | cons c r =>
  rw [e] at z;have:=h c (by rw [e];exact IP);cases z;omega
theorem sQ {x:Str}:(decide ((Str.ofString "^").length<=((Str.ofString "^")++x).length)&&Builtin.Str.subAt ((Str.ofString "^")++x) "^" 0)=true:=by
 rw [pO _ (Str.ofString "^") 94 rfl,fP];rfl
theorem xi {x y:Str} (h:x.cps.toList=y.cps.toList):x=y:=by
 obtain ⟨a⟩:=x;obtain ⟨b⟩:=y;exact congrArg Str.mk (Ll.mp h)
theorem xq {x:Str}:oo ((Str.ofString "^")++x) (some 1) none=x:=by
 apply xi;rw [D5 (by decide),fP];rfl
theorem um {x:Str} {b:Bool} {Q:PR->List PyData->Prop} (h:(decide ((Str.ofString "^").length<=x.length)&&Builtin.Str.subAt x "^" 0)=b) (q:Q (.dat (.bool b)) []):WF aU [.str x] Q:=by
 refine cM rfl ?_;unfold cR;walk_at "pp";rw [h];exact q
theorem ux {x:Str} {Q:PR->List PyData->Prop} (h:Ltr x) (q:Q (.dat (.str x)) []):WF cH [.str x] Q:=by
 refine cM rfl ?_;unfold eE;walk_at "pp";refine ab (ds:=[.str x]) (is:=[]) rfl rfl (um (wV h) ⟨rfl,?_⟩);walk_at "pp";exact q
theorem tG {x:Str} {Q:PR->List PyData->Prop} (q:Q (.dat (.str x)) []):WF cH [.str ((Str.ofString "^")++x)] Q:=by
 refine cM rfl ?_;unfold eE;walk_at "pp";refine ab (ds:=[.str ((Str.ofString "^")++x)]) (is:=[]) rfl rfl (um sQ ⟨rfl,?_⟩);walk_at "pp";rw [xq];exact q
noncomputable def pF (a:Nd) (b:Str) (f:Fc):Bool:=PyData.eqv (.str f.t) a.enc&&PyData.eqv (.str f.b) (.str b)
noncomputable def pB (a:Nd) (b:Str) (f:Fc):Bool:=PyData.eqv (.str f.b) (.str b)&&PyData.eqv f.n.enc a.enc
theorem lx {e:En} {x y:AV} {a:Nd} {t:Nd} {Q:RV->En->Prop} (h1:aA e [x,y]=some [t.enc,a.enc]) (q:Q (.dat (.bool (PyData.eqv t.enc a.enc))) e):WPr eqP [x,y] e Q:=w_eq h1 (vD t) (vD a) q
theorem we {α:Type}:∀ xs:List α,xs.zip xs=xs.map fun x=>(x,x)
 | []=>rfl
 | a :: U=>by rw [Lw,we U];rfl
theorem mI {L:List Nd} {Q:PR->List PyData->Prop} (q:Q (.dat (.bool true)) []):WF fI [.list (L.map Nd.enc),.list (L.map Nd.enc)] Q:=by
 refine cM rfl ?_;unfold ni;walk_at "ps";refine tM rfl (rn L) ?_;walk_at "pp";refine ⟨_,_,_,_,rfl,rfl,rfl,?_⟩;refine bg (fun i e=>jU [some (.ro (.list (L.map Nd.enc))),some (.dat (.list (L.map Nd.enc))),none,none] e) (by walk_at "L") ?_ ?_
 ·rintro i d e hd _;walk_at "l";have:∃ a,d=.tuple [Nd.enc a,Nd.enc a]:=by
   have hm:=Jl hd;obtain ⟨p,hp,rfl⟩:=Jz.mp hm;rw [we] at hp;obtain ⟨y,hy,rfl⟩:=Jz.mp hp;obtain ⟨a,_,rfl⟩:=Jz.mp hy;exact ⟨a,rfl⟩
  obtain ⟨a,rfl⟩:=this;walk_at "fT";walk_at "n";walk_at "pp";refine uj (by cases a <;> rfl) ?_;walk_at "pp";refine ab (ds:=[a.enc]) (is:=[]) rfl rfl (d6 ⟨rfl,?_⟩);walk_at "n";walk_at "pp";refine ab (ds:=[a.enc]) (is:=[]) rfl rfl (d6 ⟨rfl,?_⟩);walk_at "n";walk_at "ps";refine tM rfl rfl ?_;walk_at "pp";walk_at "L"
 ·rintro e _;walk_at "l";walk_at "pp";exact q
noncomputable def pC (a:Nd) (b:Str) (f:Fc):Bool:=PyData.eqv f.n.enc a.enc&&PyData.eqv (.str f.b) (.str b)
theorem Hg {L:List Fc} {a:Nd} {x:Str} {js:List Nat} {lk:Option Nat} {e1:En} {Q:RV->En->Prop} (hc:b5 e1 lk js=[.dat a.enc,.dat (.str x)]) (q:Q (.frs (.list (((L.filter (pF a x)).map (·.n)).map Nd.enc))) (ar e1 js [.dat a.enc,.dat (.str x)])):vR (bw (dT gds (.and (.tst (.prm eqP (.cons (.prm ixP (.cons (.var 0) (.cons (.cst (.i 0)) .nil))) (.cons (.var 1) .nil)))) (.tst (.prm eqP (.cons (.prm ixP (.cons (.var 0) (.cons (.cst (.i 1)) .nil))) (.cons (.var 2) .nil)))))) (dE gds (.prm ixP (.cons (.var 0) (.cons (.cst (.i 2)) .nil))))) js (L.map Fc.enc) lk e1 Q:=by
 refine cz (fun j ys ec=>ys=(((L.take j).filter (pF a x)).map (·.n)).map Nd.enc/\ec=[.dat a.enc,.dat (.str x)]) ⟨rfl,hc⟩ ?_ ?_
 ·rintro j d ys ec hd ⟨rfl,rfl⟩;rw [IX] at hd;obtain ⟨f,hf,rfl⟩:=Jd.mp hd;rw [<- KL hf,Lc];have nf:∀ b,pF a x f=b->b=false->([f].filter (pF a x))=[]:=fun b e z=>Kl (by rw [e,z];decide);refine e8 ?_;unfold Fc.enc;walk_at "ps";refine lx (t:=.ai f.t) (a:=a) rfl ?_;walk_at "ps";refine cV (fun c1=>?_) (fun c1=>?_)
  ·walk_at "ps";refine lx (t:=.ai f.b) (a:=.ai x) rfl ?_;walk_at "ps";refine cV (fun c2=>?_) (fun c2=>?_)
   ·walk_at "pp";refine ⟨?_,rfl⟩;rw [show [f].filter (pF a x)=[f] from Kk (K0.mpr ⟨c1,c2⟩),Ju,Ju];rfl
   ·rw [nf _ rfl (KU.mpr (.inr c2)),Jp];exact ⟨Jp _,rfl⟩
  ·rw [nf _ rfl (KU.mpr (.inl c1)),Jp];exact ⟨Jp _,rfl⟩
 ·rintro ys ec ⟨rfl,rfl⟩;rw [II,J2];exact q
theorem HS {L:List Fc} {a:Nd} {x:Str} {js:List Nat} {lk:Option Nat} {e1:En} {Q:RV->En->Prop} (hc:b5 e1 lk js=[.dat (.str x),.dat a.enc]) (q:Q (.frs (.list (((L.filter (pB a x)).map (fun f=>Nd.ai f.t)).map Nd.enc))) (ar e1 js [.dat (.str x),.dat a.enc])):vR (bw (dT gds (.and (.tst (.prm eqP (.cons (.prm ixP (.cons (.var 0) (.cons (.cst (.i 1)) .nil))) (.cons (.var 1) .nil)))) (.tst (.prm eqP (.cons (.prm ixP (.cons (.var 0) (.cons (.cst (.i 2)) .nil))) (.cons (.var 2) .nil)))))) (dE gds (.prm ixP (.cons (.var 0) (.cons (.cst (.i 0)) .nil))))) js (L.map Fc.enc) lk e1 Q:=by
 refine cz (fun j ys ec=>ys=(((L.take j).filter (pB a x)).map (fun f=>Nd.ai f.t)).map Nd.enc/\ec=[.dat (.str x),.dat a.enc]) ⟨rfl,hc⟩ ?_ ?_
 ·rintro j d ys ec hd ⟨rfl,rfl⟩;rw [IX] at hd;obtain ⟨f,hf,rfl⟩:=Jd.mp hd;rw [<- KL hf,Lc];have nf:∀ b,pB a x f=b->b=false->([f].filter (pB a x))=[]:=fun b e z=>Kl (by rw [e,z];decide);refine e8 ?_;unfold Fc.enc;walk_at "ps";refine lx (t:=.ai f.b) (a:=.ai x) rfl ?_;walk_at "ps";refine cV (fun c1=>?_) (fun c1=>?_)
  ·walk_at "ps";refine lx (t:=f.n) (a:=a) rfl ?_;walk_at "ps";refine cV (fun c2=>?_) (fun c2=>?_)
   ·walk_at "pp";refine ⟨?_,rfl⟩;rw [show [f].filter (pB a x)=[f] from Kk (K0.mpr ⟨c1,c2⟩),Ju,Ju];rfl
   ·rw [nf _ rfl (KU.mpr (.inr c2)),Jp];exact ⟨Jp _,rfl⟩
  ·rw [nf _ rfl (KU.mpr (.inl c1)),Jp];exact ⟨Jp _,rfl⟩
 ·rintro ys ec ⟨rfl,rfl⟩;rw [II,J2];exact q
theorem HK {L:List Fc} {a:Nd} {x:Str} {js:List Nat} {lk:Option Nat} {e1:En} {Q:RV->En->Prop} (hc:b5 e1 lk js=[.dat a.enc,.dat (.str x)]) (q:Q (.frs (.list (((L.filter (pC a x)).map (fun f=>Nd.ai f.t)).map Nd.enc))) (ar e1 js [.dat a.enc,.dat (.str x)])):vR (bw (dT gds (.and (.tst (.prm eqP (.cons (.prm ixP (.cons (.var 0) (.cons (.cst (.i 2)) .nil))) (.cons (.var 1) .nil)))) (.tst (.prm eqP (.cons (.prm ixP (.cons (.var 0) (.cons (.cst (.i 1)) .nil))) (.cons (.var 2) .nil)))))) (dE gds (.prm ixP (.cons (.var 0) (.cons (.cst (.i 0)) .nil))))) js (L.map Fc.enc) lk e1 Q:=by
 refine cz (fun j ys ec=>ys=(((L.take j).filter (pC a x)).map (fun f=>Nd.ai f.t)).map Nd.enc/\ec=[.dat a.enc,.dat (.str x)]) ⟨rfl,hc⟩ ?_ ?_
 ·rintro j d ys ec hd ⟨rfl,rfl⟩;rw [IX] at hd;obtain ⟨f,hf,rfl⟩:=Jd.mp hd;rw [<- KL hf,Lc];have nf:∀ b,pC a x f=b->b=false->([f].filter (pC a x))=[]:=fun b e z=>Kl (by rw [e,z];decide);refine e8 ?_;unfold Fc.enc;walk_at "ps";refine lx (t:=f.n) (a:=a) rfl ?_;walk_at "ps";refine cV (fun c1=>?_) (fun c1=>?_)
  ·walk_at "ps";refine lx (t:=.ai f.b) (a:=.ai x) rfl ?_;walk_at "ps";refine cV (fun c2=>?_) (fun c2=>?_)
   ·walk_at "pp";refine ⟨?_,rfl⟩;rw [show [f].filter (pC a x)=[f] from Kk (K0.mpr ⟨c1,c2⟩),Ju,Ju];rfl
   ·rw [nf _ rfl (KU.mpr (.inr c2)),Jp];exact ⟨Jp _,rfl⟩
  ·rw [nf _ rfl (KU.mpr (.inl c1)),Jp];exact ⟨Jp _,rfl⟩
 ·rintro ys ec ⟨rfl,rfl⟩;rw [II,J2];exact q
theorem tW {L:List Fc} {a:Nd} {x:Str} {Q:PR->List PyData->Prop} (h:Ltr x) (q:Q (.frs (.list (((L.filter (pF a x)).map (·.n)).map Nd.enc))) []):WF fN [.tuple (L.map Fc.enc),a.enc,.str x] Q:=by
 refine cM rfl ?_;unfold k5;walk_at "pp";refine ab (ds:=[.str x]) (is:=[]) rfl rfl (ux h ⟨rfl,?_⟩);walk_at "pp";refine ab (ds:=[.str x]) (is:=[]) rfl rfl (um (wV h) ⟨rfl,?_⟩);walk_at "pp";refine Hg rfl ?_;walk_at "pp";exact q
theorem uw {L:List Fc} {a:Nd} {x:Str} {Q:PR->List PyData->Prop} (q:Q (.frs (.list (((L.filter (pB a x)).map (fun f=>Nd.ai f.t)).map Nd.enc))) []):WF fN [.tuple (L.map Fc.enc),a.enc,.str ((Str.ofString "^")++x)] Q:=by
 refine cM rfl ?_;unfold k5;walk_at "pp";refine ab (ds:=[.str ((Str.ofString "^")++x)]) (is:=[]) rfl rfl (tG ⟨rfl,?_⟩);walk_at "pp";refine ab (ds:=[.str ((Str.ofString "^")++x)]) (is:=[]) rfl rfl (um sQ ⟨rfl,?_⟩);walk_at "pp";refine HS rfl ?_;walk_at "pp";exact q
theorem pFt {a:Nd} {x:Str} {f:Fc} (h:pF a x f=true):Nd.ai f.t=a/\f.b=x:=by
 obtain ⟨h1,h2⟩:=K0.mp h;exact ⟨cE (a:=.ai f.t) h1,Nd.ai.inj (cE (a:=.ai f.b) (b:=.ai x) h2)⟩
theorem pBt {a:Nd} {x:Str} {f:Fc} (h:pB a x f=true):f.b=x/\f.n=a:=by
 obtain ⟨h1,h2⟩:=K0.mp h;exact ⟨Nd.ai.inj (cE (a:=.ai f.b) (b:=.ai x) h1),cE h2⟩
theorem qR {a b:Fc}:v3 a b=if a.t=b.t then (if a.b=b.b then ltN a.n b.n else decide (a.b.cps.toList < b.b.cps.toList)) else decide (a.t.cps.toList < b.t.cps.toList):=rfl
theorem Fh {L:List Fc} {a:Nd} {x:Str} (h:Srt v3 L):Srt ltN ((L.filter (pF a x)).map (·.n)):=by
 unfold Srt;rw [LH];refine (h.filter _).imp_of_mem fun {f g} hf hg z=>?_;have h1:=pFt (Ko.mp hf).2;have h2:=pFt (Ko.mp hg).2;rw [qR,IV (Nd.ai.inj (h1.1.trans h2.1.symm)),IV (h1.2.trans h2.2.symm)] at z;exact z
theorem EH {L:List Fc} {a:Nd} {x:Str} (h:Srt v3 L):Srt ltN ((L.filter (pB a x)).map fun f=>Nd.ai f.t):=by
 unfold Srt;rw [LH];refine (h.filter _).imp_of_mem fun {f g} hf hg z=>?_;have h1:=pBt (Ko.mp hf).2;have h2:=pBt (Ko.mp hg).2;rw [qR] at z;split at z
 ·rw [IV (h1.1.trans h2.1.symm),h1.2,h2.2,loN.irr] at z;cases z
 ·exact z
theorem wk {L M:List Fc} {p:Fc->Bool} {s:Fc->Nd} (h:∀ f,f∈L↔f∈M) (a:Nd):a∈(L.filter p).map s↔a∈(M.filter p).map s:=by
 simp only [Jz,Ko,h]
theorem vj {ss tt:List Str} (h:∀ x,x∈ss↔x∈tt):iK (bP ss)=iK (bP tt):=by
 refine K6 (fun _ _ _ _ p q=>m7 p q) (jd _) (jd _) ((aY _).trans (((Lx (iJ ss) (iJ tt)).mpr fun x=>?_).trans (aY _).symm));rw [i3,i3];exact h x
noncomputable abbrev nds (L:List Fc):List Nd:=L.map (fun f=>Nd.ai f.t)++L.map (·.n)
theorem sW {L:List Fc} {i:Int} {s:Fc->Nd} {js:List Nat} {lk:Option Nat} {e1:En} {Q:RV->En->Prop} (hi:∀ f:Fc,atI [PyData.str f.t,.str f.b,f.n.enc] i=some (s f).enc) (hc:b5 e1 lk js=[]) (q:Q (.frs (.list ((L.map s).map Nd.enc))) (ar e1 js [])):vR (bw (dT gds .yes) (dE gds (.prm ixP (.cons (.var 0) (.cons (.cst (.i i)) .nil))))) js (L.map Fc.enc) lk e1 Q:=by
 refine cz (fun j ys ec=>ys=((L.take j).map s).map Nd.enc/\ec=[]) ⟨rfl,hc⟩ ?_ ?_
 ·rintro j d ys ec hd ⟨rfl,rfl⟩;rw [IX] at hd;obtain ⟨f,hf,rfl⟩:=Jd.mp hd;rw [<- KL hf];refine e8 ?_;unfold Fc.enc;walk_at "pp";refine Gd rfl (hi f) ?_;walk_at "pp";refine ⟨?_,rfl⟩;rw [Ju,Ju];rfl
 ·rintro ys ec ⟨rfl,rfl⟩;rw [II,J2];exact q
theorem uX {L:List Fc} {M:List Nd} {Q:PR->List PyData->Prop} (hl:L.length<=60) (hM:Srt ltN M) (hm:∀ a,a∈M↔a∈nds L) (q:Q (.frs (.list (M.map Nd.enc))) []):WF cU [.tuple (L.map Fc.enc)] Q:=by
 refine cM rfl ?_;unfold gu;walk_at "pp";refine sW (s:=fun f=>.ai f.t) (fun _=>rfl) rfl ?_;walk_at "pp";refine sW (s:=(·.n)) (fun _=>rfl) rfl ?_;walk_at "pp";refine qm rfl (by simp only [II];show _<=2 ^ 24;omega) ?_;rw [<- Ju];walk_at "pp";refine ab (ds:=[.list ((nds L).map Nd.enc)]) (is:=[]) rfl rfl (qX (by simp only [IH,II];omega) hM hm ⟨rfl,?_⟩);walk_at "pp";exact q
noncomputable def bts (a:Nd) (L:List Fc):List Str:=(L.filter fun f=>PyData.eqv (.str f.t) a.enc).map (·.b)
theorem GF {L:List Fc} {a:Nd} {js:List Nat} {lk:Option Nat} {e1:En} {Q:RV->En->Prop} (hc:b5 e1 lk js=[.dat a.enc]) (q:Q (.frs (.list ((bts a L).map .str))) (ar e1 js [.dat a.enc])):vR (bw (dT gds (.tst (.prm eqP (.cons (.prm ixP (.cons (.var 0) (.cons (.cst (.i 0)) .nil))) (.cons (.var 1) .nil))))) (dE gds (.prm ixP (.cons (.var 0) (.cons (.cst (.i 1)) .nil))))) js (L.map Fc.enc) lk e1 Q:=by
 refine cz (fun j ys ec=>ys=(bts a (L.take j)).map .str/\ec=[.dat a.enc]) ⟨rfl,hc⟩ ?_ ?_
 ·rintro j d ys ec hd ⟨rfl,rfl⟩;rw [IX] at hd;obtain ⟨f,hf,rfl⟩:=Jd.mp hd;unfold bts;rw [<- KL hf,Lc];refine e8 ?_;unfold Fc.enc;walk_at "ps";refine lx (t:=.ai f.t) (a:=a) rfl ?_;walk_at "ps";refine cV (fun c1=>?_) (fun c1=>?_)
  ·walk_at "pp";refine ⟨?_,rfl⟩;rw [show [f].filter (fun f=>PyData.eqv (.str f.t) a.enc)=[f] from Kk (p:=fun f:Fc=>PyData.eqv (.str f.t) a.enc) c1,Ju,Ju];rfl
  ·have c1:PyData.eqv (.str f.t) a.enc=false:=c1;rw [Kl (by rw [c1];decide),List.filter_nil,Jp];exact ⟨Jp _,rfl⟩
 ·rintro ys ec ⟨rfl,rfl⟩;rw [II,J2];exact q
theorem lH {a:Nd} {L:List Fc}:(bts a L).length<=L.length:=by unfold bts;rw [II];exact Lg ..
theorem mY {L:List Fc} {a:Nd} {Q:PR->List PyData->Prop} (hl:L.length<=60) (q:Q (.frs (.list ((iK (bP (bts a L))).map .str))) []):WF bM [.tuple (L.map Fc.enc),a.enc] Q:=by
 refine cM rfl ?_;unfold gm;walk_at "pp";refine GF rfl ?_;walk_at "pp";refine vq (ss:=bts a L) rfl (by have:=lH (a:=a) (L:=L);omega) ?_;walk_at "pp";exact q
theorem Er {a:Nd} {x:Str}:pC a x=pB a x:=by
 funext f;unfold pC pB;rw [Bool.and_comm]
theorem pP {ns M:List Nd} {Q:PR->List PyData->Prop} (hl:ns.length<=200) (hM:Srt ltN M) (mM:∀ a,a∈M↔a∈ns) (q:Q (.frs (.list (M.map Nd.enc))) []):WF dX [.list (ns.map Nd.enc)] Q :=
 pT hl fun L hL mL=>(xC loN hM hL fun b=>(mM b).trans (mL b).symm)▸q
theorem tY {L gs:List Fc} {a:Nd} {x:Str} {Q:PR->List PyData->Prop} (hx:Ltr x) (hx8:x.length<=8) (hL:Srt v3 L) (hm:∀ f,f∈L↔f∈gs) (hl:L.length<=60) (hg:gs.length<=60) (q:Q (.dat (.bool true)) []):WF iR [.tuple (L.map Fc.enc),.list (gs.map Fc.enc),a.enc,.str x] Q:=by
 refine cM rfl ?_;unfold mO;walk_at "pp";refine fg rfl (Hg rfl ?_);walk_at "pp";refine ab (ds:=[.list (((gs.filter (pF a x)).map (·.n)).map Nd.enc)]) (is:=[]) rfl rfl (pP (M:=(L.filter (pF a x)).map (·.n)) (by rw [II];exact Jt (Lg ..) (by omega)) (Fh hL) (fun b=>wk hm b) ⟨rfl,?_⟩);walk_at "n";walk_at "pp";refine fg rfl (HK rfl ?_);walk_at "pp";refine ab (ds:=[.list (((gs.filter (pC a x)).map (fun f=>Nd.ai f.t)).map Nd.enc)]) (is:=[]) rfl rfl (pP (M:=(L.filter (pB a x)).map (fun f=>Nd.ai f.t)) (by rw [II];exact Jt (Lg ..) (by omega)) (EH hL) (fun b=>by rw [Er];exact wk hm b) ⟨rfl,?_⟩);walk_at "n";walk_at "pp";refine vA rfl (by show 1+_<=2 ^ 24;omega) ?_;walk_at "pp";refine fg rfl (bg (fun i e=>jU [some (.dat (.tuple (L.map Fc.enc))),some (.dat (.list (gs.map Fc.enc))),some (.dat a.enc),some (.dat (.str x)),none,none,none,none,none,none] e) (by walk_at "L") ?_ ?_)
 ·rintro i d e hd _;walk_at "l";have:∃ (y:Str) (M:List Nd),d=.tuple [.str y,.list (M.map Nd.enc)]/\M.length<=60/\∀ Q':PR->List PyData->Prop,Q' (.frs (.list (M.map Nd.enc))) []->WF fN [.tuple (L.map Fc.enc),a.enc,.str y] Q':=by
   have hm:=Jl hd;simp only [Jb,LP,K4] at hm;rcases hm with rfl | rfl
   ·exact ⟨x,_,rfl,by rw [II];exact Jt (Lg ..) hl,fun Q' h=>tW hx h⟩
   ·exact ⟨_,_,rfl,by rw [II];exact Jt (Lg ..) hl,fun Q' h=>uw h⟩
  obtain ⟨y,M,rfl,hM,hy⟩:=this;walk_at "fT";walk_at "n";walk_at "pp";refine ⟨⟨by decide,by decide⟩,?_⟩;refine bg (fun i e=>jU [some (.dat (.tuple (L.map Fc.enc))),some (.dat (.list (gs.map Fc.enc))),some (.dat a.enc),some (.dat (.str x)),none,none,some (.dat (.str y)),some (.dat (.list (M.map Nd.enc))),none,none] e) (by walk_at "L") ?_ ?_
  ·rintro i d e hd _;walk_at "l";walk_at "f";walk_at "pp";refine ab (ds:=[.tuple (L.map Fc.enc),a.enc,.str y]) (is:=[]) rfl rfl (hy _ ⟨rfl,?_⟩);walk_at "n";walk_at "pp";refine ab (ds:=[.list (M.map Nd.enc),.list (M.map Nd.enc)]) (is:=[]) rfl rfl (mI ⟨rfl,?_⟩);walk_at "pp";refine vi rfl (by rw [II];show _ < 2 ^ 24;omega) rfl ?_;walk_at "L"
  ·rintro e _;walk_at "l";walk_at "pp";walk_at "L"
 ·rintro e _;walk_at "l";walk_at "pp";exact q
theorem jG (ss:List Str):fm (.list (ss.map .str))=true:=by
 have:=rn (ss.map .ai);rw [KI] at this;exact this
theorem vJ {e:En} {x y:AV} {xs ys zs:List PyData} {Q:RV->En->Prop} (h1:aA e [x,y]=some [.list xs,.list ys]) (h2:xs.length+ys.length<=sizeLine) (h3:xs++ys=zs) (q:Q (.frs (.list zs)) e):WPr jt [x,y] e Q:=qm h1 h2 (h3▸q)
theorem D3 {e:En} {x:AV} {ss:List Str} {zs:List Str} {Q:RV->En->Prop} (h1:aA e [x]=some [.list (ss.map .str)]) (h2:ss.length < 64) (h3:iK (bP ss)=zs) (q:Q (.frs (.list (zs.map .str))) e):WPr rC [x] e Q:=vq h1 h2 (h3▸q)
theorem uA {ns:List Int} (hl:ns.length<=63):WF vF [.list (ns.map .int)] fun pr outs=>pr=.dat (.bool true)/\outs=[]:=by
 refine cM rfl ?_;unfold vH;walk_at "pp";refine ab rfl rfl (Cd ⟨rfl,?_⟩);have hP:bS ns 0 (wX ns 0 0):=⟨0,0,rfl,by decide,by decide,by decide⟩;generalize wX ns 0 0=pn at hP;walk_at "pp";refine ab (ds:=[pn,.int 9]) (is:=[1]) rfl rfl (l6 hP (by omega) (by decide) (by decide) fun ts pn1 hP1 t0 t9 hs=>⟨rfl,?_⟩);walk_at "n";walk_at "pp";refine ab (ds:=[pn1,.int 5]) (is:=[1]) rfl rfl (l6 hP1 (by omega) (by decide) (by decide) fun bs pn2 hP2 b0 b9 hs2=>⟨rfl,?_⟩);walk_at "n";walk_at "pz";with_reducible refine wI fun N eN=>?_
 have rest:∀ (bs:List Str) (pn3:PyData),0 < bs.length->bs.length<=9->(∀ x∈bs,Nam x)->bS ns 300 pn3->N ([.dat (.list (ns.map .int)),.own pn3,.dat (.list (ts.map .str)),.own (.list (bs.map .str)),.un,.un,.un,.un,.un,.un,.un,.un]:En):=by
  clear hs2 hP2 b0 b9 bs pn2;intro bs pn3 b0 b9 hs2 hP3;rw [eN];walk_at "pp";refine ab (ds:=[pn3,.list (ts.map .str),.list (bs.map .str)]) (is:=[1]) rfl rfl (uT hP3 (by omega) t0 t9 hs b0 b9 hs2 fun gs pn4 hP4 hg hsg=>⟨rfl,?_⟩);obtain ⟨L,hL,hm⟩:=vI loF gs;have h4:L.length<=60:=Jt ((bG loF hL).length_le_of_subset fun a ha=>(hm a).mp ha) hg;walk_at "n";walk_at "pp";refine ab (ds:=[.list (gs.map Fc.enc)]) (is:=[]) rfl rfl (Bj hsg (by omega) hL hm (by omega) ⟨rfl,?_⟩);walk_at "n";walk_at "pp";refine fg rfl (sW (s:=fun f=>.ai f.t) (fun _=>rfl) rfl ?_);walk_at "pp";refine fg rfl (sW (s:=(·.n)) (fun _=>rfl) rfl ?_);walk_at "pp";refine vJ rfl (by simp only [II];show _<=2 ^ 24;omega) Ju.symm ?_;walk_at "pp";refine ab (ds:=[.list ((nds gs).map Nd.enc)]) (is:=[]) rfl rfl (pT (by simp only [IH,II];omega) fun M hM mM=>⟨rfl,?_⟩);have mL:∀ a,a∈M↔a∈nds L:=fun a=>by
   rw [mM a];simp only [nds,Jv,Jz,hm]
  have lM:M.length<=120:=Jt ((bG loN hM).length_le_of_subset fun a ha=>(mM a).mp ha) (by simp only [IH,II];omega);walk_at "n";walk_at "pp";refine ⟨⟨by decide,by decide⟩,?_⟩;refine bg (fun i e=>jU [some (.dat (.list (ns.map .int))),some (.own pn4),some (.dat (.list (ts.map .str))),some (.own (.list (bs.map .str))),some (.dat (.list (gs.map Fc.enc))),some (.dat (.tuple (L.map Fc.enc))),some (.dat (.list (M.map Nd.enc))),none,none,none,none,none] e) (by walk_at "L") ?_ ?_
  ·rintro i d e hd _;walk_at "l";walk_at "f";walk_at "pp";refine ab (ds:=[.tuple (L.map Fc.enc)]) (is:=[]) rfl rfl (uX h4 hM mL ⟨rfl,?_⟩);walk_at "n";walk_at "pp";refine ab (ds:=[.list (M.map Nd.enc),.list (M.map Nd.enc)]) (is:=[]) rfl rfl (mI ⟨rfl,?_⟩);walk_at "pp";walk_at "L"
  rintro e _;walk_at "l";walk_at "pp";obtain ⟨M3,e3⟩:∃ M3:List Nd,M.map Nd.enc++[.str "nobody", .int 77,.tuple [.str "none"]]=M3.map Nd.enc:=⟨M++[Nd.ai "nobody", .num 77,.c7 "none"],by rw [Ju];rfl⟩;refine vJ (ys:=[.str "nobody", .int 77,.tuple [.str "none"]]) rfl (by simp only [II];show _+3<=2 ^ 24;omega) e3 ?_;walk_at "pp";refine fg rfl (bg (fun i e=>jU [some (.dat (.list (ns.map .int))),some (.own pn4),some (.dat (.list (ts.map .str))),some (.own (.list (bs.map .str))),some (.dat (.list (gs.map Fc.enc))),some (.dat (.tuple (L.map Fc.enc))),some (.dat (.list (M.map Nd.enc))),none,none,none,none,none] e) (by walk_at "L") ?_ ?_)
  ·rintro i d e hd _;walk_at "l";rw [IX] at hd;obtain ⟨a,ha,rfl⟩:=Jd.mp hd;walk_at "f";walk_at "pp";refine qm (ys:=[.str "nobond"]) rfl (by simp only [II];show _+1<=2 ^ 24;omega) ?_;walk_at "pp";refine fg rfl (bg (fun i e=>jU [some (.dat (.list (ns.map .int))),some (.own pn4),some (.dat (.list (ts.map .str))),some (.own (.list (bs.map .str))),some (.dat (.list (gs.map Fc.enc))),some (.dat (.tuple (L.map Fc.enc))),some (.dat (.list (M.map Nd.enc))),none,none,some (.dat a.enc),none,none] e) (by walk_at "L") ?_ ?_)
   ·rintro i d e hd _;walk_at "l";have:∃ x:Str,d=.str x/\Ltr x/\x.length<=8:=by
     rcases Jv.mp (Jl hd) with h | h
     ·obtain ⟨x,hx,rfl⟩:=Jz.mp h;exact ⟨x,rfl,(hs2 x hx).1,(hs2 x hx).2.1⟩
     ·cases Ja.mp h;exact ⟨_,rfl,show ∀ c∈(Str.ofString "nobond").cps.toList,97<=c/\c<=122 by decide,by decide⟩
    obtain ⟨x,rfl,hx,hx8⟩:=this;walk_at "f";walk_at "pp";refine ab (ds:=[.tuple (L.map Fc.enc),.list (gs.map Fc.enc),a.enc,.str x]) (is:=[]) rfl rfl (tY hx hx8 hL hm h4 hg ⟨rfl,?_⟩);walk_at "pp";walk_at "L"
   rintro e _;walk_at "l";walk_at "pp";refine fg rfl (GF rfl ?_);walk_at "pp";refine D3 (ss:=bts a gs) rfl (by have:=lH (a:=a) (L:=gs);omega) (vj (tt:=bts a L) fun x=>by unfold bts;simp only [Jz,Ko,hm]) ?_;walk_at "pp";refine ab (ds:=[.tuple (L.map Fc.enc),a.enc]) (is:=[]) rfl rfl (mY h4 ⟨rfl,?_⟩);walk_at "n";walk_at "ps";refine tM rfl (jG _) ?_;walk_at "pp";refine vi rfl (by rw [II];have h7:=(aY (bP (bts a L))).length_eq;have h8:=jq (bts a L);have h9:=lH (a:=a) (L:=L);show _ < 2 ^ 24;omega) rfl ?_;walk_at "n";walk_at "pp";refine ab (ds:=[.tuple (L.map Fc.enc),a.enc]) (is:=[]) rfl rfl (mY h4 ⟨rfl,?_⟩);walk_at "n";walk_at "ps";refine tM rfl (jG _) ?_;walk_at "pp";walk_at "L"
  ·rintro e _;walk_at "l";walk_at "pp";exact ⟨rfl,rfl⟩
 obtain ⟨t1,tr,rfl⟩:∃ t1 tr,ts=t1 :: tr:=by
  cases ts with
  | nil=>cases t0
  | cons a b=>exact ⟨a,b,rfl⟩
 obtain ⟨b1,br,rfl⟩:∃ t1 tr,bs=t1 :: tr:=by
  cases bs with
  | nil=>cases b0
  | cons a b=>exact ⟨a,b,rfl⟩
 walk_at "d";intro w1 pn3 hP3 w10 w11;walk_at "n";walk_at "pp";refine cV (fun c1=>?_) (fun c1=>?_)
 ·walk_at "pp";refine q8 rfl at0 ?_;walk_at "pp";refine BL (b1 :: br) rfl fun b hb0=>?_;walk_at "pp";refine cV (fun c2=>?_) (fun c2=>?_)
  ·walk_at "pp";refine q8 rfl at0 ?_;walk_at "pp";refine AD (k:=0) rfl rfl (by decide) (by simp) ?_
   exact rest (t1 :: br) pn3 (by simp) b9 (fun z hz=>by
    rcases Jb.mp hz with rfl | hz
    ·exact hs _ IP
    ·exact hs2 z (IZ _ hz)) (hP3.mono (by omega))
  ·walk_at "pp";exact rest _ pn3 b0 b9 hs2 (hP3.mono (by omega))
 ·walk_at "pp";exact rest _ pn3 b0 b9 hs2 (hP3.mono (by omega))
end K08
end
namespace PySem.W.Fast
noncomputable def tw2013205687919614755:=()
noncomputable def tw1560078478707245320:=()
noncomputable def tw13783856728273095669:=()
noncomputable def tw17274030136334022468:=()
noncomputable def tw17868628009628741005:=()
noncomputable def tw4411187417816285283:=()
noncomputable def tw9091539197157750681:=()
noncomputable def tw3016652125215371473:=()
noncomputable def tw3724123268442019301:=()
noncomputable def tw7186146644194388413:=()
noncomputable def tw1887085941358856698:=()
noncomputable def tw16614890572822901574:=()
noncomputable def tw100528584722523271:=()
noncomputable def tw1609121045477151036:=()
noncomputable def tw9250273455935817962:=()
noncomputable def tw13163741056492061320:=()
noncomputable def tw17464532805467770611:=()
noncomputable def tw9110086449405622826:=()
noncomputable def tw13822632322111124986:=()
noncomputable def tw1537978155628898951:=()
noncomputable def tw2651895639298365683:=()
noncomputable def tw13870394626171525279:=()
noncomputable def tw3486042496489572130:=()
noncomputable def tw2350567947469145840:=()
noncomputable def tw8389475432677363608:=()
noncomputable def tw10711294112617739824:=()
noncomputable def tw8247836494206693663:=()
noncomputable def tw9682347583530797397:=()
noncomputable def tw7111357911345559766:=()
end PySem.W.Fast
open PySem PySem.W PyProof.Rows
set_option maxRecDepth 100000 in
set_option maxHeartbeats 0 in
theorem PySem.Challenge.cw_webshapes_k08_nodes_and_ends_holds : PySem.Challenge.rw_webshapes_k08_nodes_and_ends.Holds := by
  w_on; (refine holds_law L2.ws fun c7 => ?_); k_head; (case hw => w_witness2)
  k_fill
  refine L2.tE (l := PySem.Challenge.rw_webshapes_k08_nodes_and_ends) (n := 63) (k := 8) (x := "_law_script") (CX := L2.CX0) (sp := K08.pL) rfl (by decide) rfl ⟨rfl, by decide, by decide, rfl⟩ (fun w h Y => PySem.W.kIn_of Y) ?F ?S ?C
  case F =>
    intro w mg fa h KX G hmg;have TT : ∃ t : K08.Adr, (∀ (s : Shared) (u : Value), BindsTo s (t.f 30).2 ⟨[u], []⟩ [("_law_script", u)]) ∧ K08.Txt (L2.KOf KX) mg t := by
      dsimp only [L2.KOf];refine' K08.B9 KX G ?D ?z_abs ?z_all ?z_bool ?z_int ?z_isinstance ?z_len ?z_list ?z_range ?z_set ?z_sorted ?z_str ?z_tuple ?z_zip ?g_BACK ?g_GREATEST_NUMBER ?g_MOST_FACTS ?g_MOST_LETTERS
      (case D => (iterate 31 refine L2.DD KX G (by k_is) (by k_is) (by k_is) (by k_is) (by first | exact fun _ _ _ _ _ _ => L2.us1 fun _ => rfl | exact fun _ _ _ _ _ _ => L2.us2 fun _ _ => rfl | exact fun _ _ _ _ _ _ => L2.us3 fun _ _ _ => rfl | exact fun _ _ _ _ _ _ => L2.us4 fun _ _ _ _ => rfl) ?_); exact True.intro)
      (case z_abs => k_is)
      (case z_all => k_is)
      (case z_bool => k_is)
      (case z_int => k_is)
      (case z_isinstance => k_is)
      (case z_len => k_is)
      (case z_list => k_is)
      (case z_range => k_is)
      (case z_set => k_is)
      (case z_sorted => k_is)
      (case z_str => k_is)
      (case z_tuple => k_is)
      (case z_zip => k_is)
      (case g_BACK => k_is)
      (case g_GREATEST_NUMBER => k_is)
      (case g_MOST_FACTS => k_is)
      (case g_MOST_LETTERS => k_is)
    obtain ⟨t, hb, T⟩ := TT;have e : some (Value.ref fa) = some (Value.ref (t.f 30).1) := hmg.symm.trans (T.d 30 rfl).m;have e' : fa = (t.f 30).1 := by injection e with e; injection e
    subst e';exact ⟨(t.f 30).2, hb, fun base _ _ => K08.zy T⟩
  case S => exact fun K H a ns hl _ hS => L2.Cm rfl hl hS (by obtain ⟨pr, outs, h, rfl, rfl⟩ := K08.uA hl; exact h)
  case C => exact fun _ _ _ _ z => z

