import PyProof.Rows.All
import Wide.All
import OpenK.AllK
import Wide.FinOn
import Lean
import PyProof.EqAt
import PyProof.EqKinds
import PyProof.TupleCall
import PyProof.ConsumeWalk
import PyProof.EqLayable
import PyProof.ReprRoads
import PyProof.StrWalks
import PyProof.SliceStr2
import PyProof.StrLawsIn
import PyProof.StrLawsRepr
import PyProof.SliceList
import PyProof.Rows.FStr
import PyProof.CallStr
import PyProof.Rows.SeqMore
import PyProof.ListStr
import PyProof.Claim2Refuses
import PyProof.Rows.SetFrom
import PyProof.Rows.StrMeet
import PyProof.WalksMore
import PyProof.StrCalls
import PyProof.ListMulRoad
import PyProof.MaxThree
import PyProof.Rows.SumAny
import PyProof.AutoSeq1
import PyProof.StrBlock2
import PyProof.ZipIter
import PyProof.Rows.ZipGen
import PyProof.Rows.CallKwBuiltin
import PyProof.Rows.SortRuns
import KE.KIsAll
import PyProof.DictTruth
import PyProof.ReprLen
import PyProof.ReprText
import PyProof.StrLawsRepr
import PySem.Challenge.RW_webshapes_k26_what_hangs_on_what
set_option compiler.extract_closed false
set_option bootstrap.genMatcherCode false
set_option Elab.async false
set_option linter.all false
set_option maxRecDepth 100000
set_option maxHeartbeats 4000000
section
open PySem PySem.Spec PyProof.Rows PySem.W
theorem Gd:type_of% @List.getElem?_eq_getElem:=@List.getElem?_eq_getElem
theorem Ge:type_of% @wpAny_bind:=@wpAny_bind
theorem Gf:type_of% @List.length_append:=@List.length_append
theorem Gg:type_of% @List.length_map:=@List.length_map
theorem Gh:type_of% @List.getElem?_eq_some_iff:=@List.getElem?_eq_some_iff
theorem Gi:type_of% @wpAny_pure:=@wpAny_pure
theorem Gj:type_of% @List.getElem?_append_right:=@List.getElem?_append_right
theorem Gk:type_of% @List.getElem?_set_ne:=@List.getElem?_set_ne
theorem Gm:type_of% @List.mem_cons_self:=@List.mem_cons_self
theorem Gn:type_of% @List.mem_singleton:=@List.mem_singleton
theorem Gp:type_of% @List.mem_cons_of_mem:=@List.mem_cons_of_mem
theorem Gq:type_of% @Heap.get?_push_of_some:=@Heap.get?_push_of_some
theorem Gr:type_of% @List.mem_append_right:=@List.mem_append_right
theorem Gs:type_of% @if_pos:=@if_pos
theorem Gu:type_of% @Nat.le_refl:=@Nat.le_refl
theorem Gv:type_of% @List.mem_cons:=@List.mem_cons
theorem Gw:type_of% @List.size_toArray:=@List.size_toArray
theorem Gx:type_of% @List.mem_of_getElem?:=@List.mem_of_getElem?
theorem Gy:type_of% @if_neg:=@if_neg
theorem Gz:type_of% @List.getElem?_append_left:=@List.getElem?_append_left
theorem GA:type_of% @Heap.lt_size:=@Heap.lt_size
theorem GB:type_of% @List.getElem?_map:=@List.getElem?_map
theorem GC:type_of% @List.getElem?_set_self:=@List.getElem?_set_self
theorem GD:type_of% @Nat.lt_of_lt_of_le:=@Nat.lt_of_lt_of_le
theorem GF:type_of% @wpS_pure:=@wpS_pure
theorem GH:type_of% @List.length_cons:=@List.length_cons
theorem GI:type_of% @List.append_assoc:=@List.append_assoc
theorem GJ:type_of% @List.pairwise_append:=@List.pairwise_append
theorem GK:type_of% @Nat.ne_of_lt:=@Nat.ne_of_lt
theorem GL:type_of% @wpS_bind:=@wpS_bind
theorem GN:type_of% @Array.length_toList:=@Array.length_toList
theorem GO:type_of% @List.mem_map:=@List.mem_map
theorem GP:type_of% @List.getD_eq_getElem?_getD:=@List.getD_eq_getElem?_getD
theorem GQ:type_of% @List.mem_append_left:=@List.mem_append_left
theorem GR:type_of% @Heap.get?_push_size:=@Heap.get?_push_size
theorem GS:type_of% @List.mem_append:=@List.mem_append
theorem GU:type_of% @Nat.le_trans:=@Nat.le_trans
theorem GV:type_of% @Bool.false_ne_true:=@Bool.false_ne_true
theorem GW:type_of% @Option.map_eq_some_iff:=@Option.map_eq_some_iff
theorem GX:type_of% @List.length_take:=@List.length_take
theorem GY:type_of% @Bool.and_eq_true:=@Bool.and_eq_true
theorem GZ:type_of% @List.eq_nil_of_length_eq_zero:=@List.eq_nil_of_length_eq_zero
theorem Ha:type_of% @List.length_set:=@List.length_set
theorem Hb:type_of% @List.mem_iff_getElem?:=@List.mem_iff_getElem?
theorem Hc:type_of% @Bool.false_eq_true:=@Bool.false_eq_true
theorem Hd:type_of% @Nat.lt_irrefl:=@Nat.lt_irrefl
theorem He:type_of% @Array.getElem?_eq_getElem:=@Array.getElem?_eq_getElem
theorem Hf:type_of% @List.length_range:=@List.length_range
theorem Hg:type_of% @wpAny_mono:=@wpAny_mono
theorem Hi:type_of% @List.map_append:=@List.map_append
theorem Hj:type_of% @Nat.lt_succ_of_lt:=@Nat.lt_succ_of_lt
theorem Hk:type_of% @List.mem_nil_iff:=@List.mem_nil_iff
theorem Hl:type_of% @beq_iff_eq:=@beq_iff_eq
theorem Hm:type_of% @sizeLine_eq:=@sizeLine_eq
theorem Hn:type_of% @Nat.zero_le:=@Nat.zero_le
theorem Ho:type_of% @Array.getD_eq_getD_getElem?:=@Array.getD_eq_getD_getElem?
theorem Hq:type_of% @Classical.byContradiction:=@Classical.byContradiction
theorem Hr:type_of% @Option.some.inj:=@Option.some.inj
theorem Hs:type_of% @List.nodup_append:=@List.nodup_append
theorem Ht:type_of% @List.pairwise_cons:=@List.pairwise_cons
theorem Hu:type_of% @List.nodup_cons:=@List.nodup_cons
theorem Hv:type_of% @wpAny_holding:=@wpAny_holding
theorem Hw:type_of% @List.take_of_length_le:=@List.take_of_length_le
theorem Hx:type_of% @List.append_nil:=@List.append_nil
theorem Hy:type_of% @List.take_length:=@List.take_length
theorem Hz:type_of% @Array.getElem?_toList:=@Array.getElem?_toList
theorem HA:type_of% @wpAny_newObj_type:=@wpAny_newObj_type
theorem HB:type_of% @wpS_forRange:=@wpS_forRange
theorem HC:type_of% @List.length_drop:=@List.length_drop
theorem HE:type_of% @List.pairwise_iff_getElem:=@List.pairwise_iff_getElem
theorem HF:type_of% @List.drop_eq_getElem_cons:=@List.drop_eq_getElem_cons
theorem HH:type_of% @wpAny_setState_of:=@wpAny_setState_of
theorem HJ:type_of% @List.Perm.refl:=@List.Perm.refl
theorem HK:type_of% @PySem.W.mg_none_of:=@PySem.W.mg_none_of
theorem HL:type_of% @or_false:=@or_false
theorem HM:type_of% @beq_self_eq_true:=@beq_self_eq_true
theorem HN:type_of% @Around.under_plainId:=@Around.under_plainId
theorem HP:type_of% @if_false:=@if_false
theorem HQ:type_of% @codeAny_builtin:=@codeAny_builtin
theorem HR:type_of% @List.foldl_cons:=@List.foldl_cons
theorem HS:type_of% @List.getElem?_eq_none:=@List.getElem?_eq_none
theorem HU:type_of% @Heap.get?_update_self:=@Heap.get?_update_self
theorem HV:type_of% @wpAny_setField_rec:=@wpAny_setField_rec
theorem HW:type_of% @Nat.le_succ:=@Nat.le_succ
theorem HX:type_of% @wpS_mono:=@wpS_mono
theorem HY:type_of% @List.toList_toArray:=@List.toList_toArray
theorem HZ:type_of% @List.set_set:=@List.set_set
theorem H0:type_of% @Heap.get?_update_other:=@Heap.get?_update_other
theorem H9:type_of% @wpAny_call_entry:=@wpAny_call_entry
theorem Ia:type_of% @Nat.lt_succ_self:=@Nat.lt_succ_self
theorem Ib:type_of% @List.mem_reverse:=@List.mem_reverse
theorem Ic:type_of% @List.pairwise_reverse:=@List.pairwise_reverse
theorem Ie:type_of% @decide_eq_false:=@decide_eq_false
theorem Ig:type_of% @List.length_nil:=@List.length_nil
theorem Ih:type_of% @Nat.pow_le_pow_right:=@Nat.pow_le_pow_right
theorem Ii:type_of% @PySem.mem_of_lookup:=@PySem.mem_of_lookup
theorem Ij:type_of% @PySem.F.plainAttrs_list:=@PySem.F.plainAttrs_list
theorem Ik:type_of% @Nat.add_sub_cancel_left:=@Nat.add_sub_cancel_left
theorem Il:type_of% @F.plain_set_update_loop:=@F.plain_set_update_loop
theorem Im:type_of% @if_true:=@if_true
theorem Io:type_of% @wpAny_specialOf:=@wpAny_specialOf
theorem Ip:type_of% @List.getElem?_toArray:=@List.getElem?_toArray
theorem Iq:type_of% @List.Perm.append_left:=@List.Perm.append_left
theorem Ir:type_of% @List.pairwise_map:=@List.pairwise_map
theorem Iu:type_of% @Int.toNat_natCast:=@Int.toNat_natCast
theorem Iv:type_of% @Bool.not_eq_true':=@Bool.not_eq_true'
theorem Iw:type_of% @wpAny_rule:=@wpAny_rule
theorem Iy:type_of% @decide_eq_true:=@decide_eq_true
theorem Iz:type_of% @bind_congr:=@bind_congr
theorem IC:type_of% @Nat.mul_le_mul_right:=@Nat.mul_le_mul_right
theorem ID:type_of% @List.drop_eq_nil_iff:=@List.drop_eq_nil_iff
theorem IE:type_of% @Array.perm_iff_toList_perm:=@Array.perm_iff_toList_perm
theorem IF:type_of% @Nat.ne_of_gt:=@Nat.ne_of_gt
theorem IG:type_of% @Nat.lt_or_ge:=@Nat.lt_or_ge
theorem IH:type_of% @List.getElem_mem:=@List.getElem_mem
theorem II:type_of% @Array.toList_inj:=@Array.toList_inj
theorem IJ:type_of% @PyProof.Rows.Reads.keeps:=@PyProof.Rows.Reads.keeps
theorem IK:type_of% @wpS_modify:=@wpS_modify
theorem IL:type_of% @List.getElem?_drop:=@List.getElem?_drop
theorem IM:type_of% @decide_eq_true_eq:=@decide_eq_true_eq
theorem IP:type_of% @Nat.sub_self:=@Nat.sub_self
theorem IQ:type_of% @Nat.pow_succ:=@Nat.pow_succ
theorem IS:type_of% @List.reverse_perm:=@List.reverse_perm
theorem IU:type_of% @Heap.size_push:=@Heap.size_push
theorem IV:type_of% @Array.toList_push:=@Array.toList_push
theorem IW:type_of% @List.take_append_drop:=@List.take_append_drop
theorem IX:type_of% @wpAny_forIn_list:=@wpAny_forIn_list
theorem IY:type_of% @List.not_mem_nil:=@List.not_mem_nil
theorem IZ:type_of% @List.all_eq_true:=@List.all_eq_true
theorem I0:type_of% @List.Nodup.length_le_of_subset:=@List.Nodup.length_le_of_subset
theorem Ja:type_of% @plainId_quiet:=@plainId_quiet
theorem Jb:type_of% @Bool.not_true:=@Bool.not_true
theorem Jc:type_of% @List.mem_of_mem_take:=@List.mem_of_mem_take
theorem Jd:type_of% @Array.toArray_toList:=@Array.toArray_toList
theorem Je:type_of% @List.length_reverse:=@List.length_reverse
theorem Jf:type_of% @codeAny_mono:=@codeAny_mono
theorem Jg:type_of% @Nat.le_of_lt:=@Nat.le_of_lt
theorem Jh:type_of% @wpAny_seqItems:=@wpAny_seqItems
theorem Ji:type_of% @Nat.mul_le_mul:=@Nat.mul_le_mul
theorem Jj:type_of% @List.drop_left:=@List.drop_left
theorem Jk:type_of% @Array.forIn_toList:=@Array.forIn_toList
theorem Jl:type_of% @Array.all_eq_true':=@Array.all_eq_true'
theorem Jn:type_of% @fits_of_scanBound:=@fits_of_scanBound
theorem Jo:type_of% @Option.some.injEq:=@Option.some.injEq
theorem Jp:type_of% @List.ext_getElem?:=@List.ext_getElem?
theorem Jq:type_of% @PySem.F.type_list_append:=@PySem.F.type_list_append
theorem Jr:type_of% @PySem.F.slot_list_append:=@PySem.F.slot_list_append
theorem Js:type_of% @List.lookup_cons:=@List.lookup_cons
theorem Jt:type_of% @F.entry_set_update_loop:=@F.entry_set_update_loop
theorem Ju:type_of% @wpS_get:=@wpS_get
theorem Jv:type_of% @wpAny_typeOf:=@wpAny_typeOf
theorem Jw:type_of% @Option.map_eq_none_iff:=@Option.map_eq_none_iff
theorem Jx:type_of% @wpAny_updateSeq:=@wpAny_updateSeq
theorem Jy:type_of% @wpAny_passesOwn:=@wpAny_passesOwn
theorem Jz:type_of% @Nat.min_eq_left:=@Nat.min_eq_left
theorem JB:type_of% @Bool.or_eq_true:=@Bool.or_eq_true
theorem JD:type_of% @List.length_singleton:=@List.length_singleton
theorem JH:type_of% @List.length_replicate:=@List.length_replicate
end
section
namespace L2
abbrev Fg:=PySem.W.Frag
set_option maxRecDepth 100000 in
set_option maxHeartbeats 0 in
theorem ws:PySem.W.OpenLaw.wellSaid PySem.Challenge.rw_webshapes_k26_what_hangs_on_what=true:=by decide +kernel
open PySem PySem.Spec PyProof.Rows
abbrev Key:=Sum Int Str
noncomputable def zv:Key->Value->Bool
 | .inl k,v=>Value.isInt k v
 | .inr x,v=>Value.isStrOf x v
noncomputable def Fc (w:World):Key->Int
 | .inl k=>hashInt k
 | .inr x=>hashStr w x
theorem aE:∀ {k:Key} {v:Value},zv k v=true->(∃ i t,k=Sum.inl i/\v=Value.int i t)\/(∃ x t,k=Sum.inr x/\v=Value.str x t)
 | .inl i,v,h=>by
  obtain ⟨t,e⟩:=Value.isInt_shape (k:=i) (v:=v) h;exact .inl ⟨i,t,rfl,e⟩
 | .inr x,v,h=>by
  obtain ⟨t,e⟩:=Value.isStrOf_shape (x:=x) (v:=v) h;exact .inr ⟨x,t,rfl,e⟩
theorem yr (a b:Int):decide ((Sum.inl a:Key)=Sum.inl b)=(a==b):=by
 by_cases e:a=b
 ·subst e;simp
 ·have h:¬(Sum.inl a:Key)=Sum.inl b:=fun q=>e (Sum.inl.inj q);rw [Ie h];exact (beq_eq_false_iff_ne.mpr e).symm
theorem xZ (a b:Str):decide ((Sum.inr a:Key)=Sum.inr b)=decide (a=b):=by
 by_cases e:a=b
 ·subst e;simp
 ·have h:¬(Sum.inr a:Key)=Sum.inr b:=fun q=>e (Sum.inr.inj q);rw [Ie h,Ie e]
theorem yb (a:Int) (b:Str):decide ((Sum.inl a:Key)=Sum.inr b)=false:=Ie (fun q=>nomatch q)
theorem Au (a:Str) (b:Int):decide ((Sum.inr a:Key)=Sum.inl b)=false:=Ie (fun q=>nomatch q)
noncomputable def kK (prog:Program) (w:World):PySem.KeyKind prog w Key where
 is:=zv
 hash:=Fc w
 inj:=fun v a b ha hb=>by
  rcases aE ha with ⟨i,t,rfl,rfl⟩ | ⟨x,t,rfl,rfl⟩
  ·rcases aE hb with ⟨j,u,rfl,e⟩ | ⟨y,u,rfl,e⟩
   ·injection e with e1 _;rw [e1]
   ·exact nomatch e
  ·rcases aE hb with ⟨j,u,rfl,e⟩ | ⟨y,u,rfl,e⟩
   ·exact nomatch e
   ·injection e with e1 _;rw [e1]
 byValue:=fun k v h=>by
  rcases aE h with ⟨i,t,rfl,rfl⟩ | ⟨x,t,rfl,rfl⟩ <;> rfl
 pyHash:=fun hv h=>by
  rcases aE hv with ⟨i,t,rfl,rfl⟩ | ⟨x,t,rfl,rfl⟩
  ·exact wpAny_pyHash_int h
  ·exact wpAny_pyHash_str h
 eqBool:=fun hu hv h=>by
  rcases aE hu with ⟨i,t,rfl,rfl⟩ | ⟨x,t,rfl,rfl⟩
  ·rcases aE hv with ⟨j,u,rfl,rfl⟩ | ⟨y,u,rfl,rfl⟩
   ·rw [yr] at h;exact wpAny_eqBool_int h
   ·rw [yb] at h;exact SeqAt.EqAt.int_str i t y u _ _ _ _ h
  ·rcases aE hv with ⟨j,u,rfl,rfl⟩ | ⟨y,u,rfl,rfl⟩
   ·rw [Au] at h;exact SeqAt.EqAt.str_int x t j u _ _ _ _ h
   ·rw [xZ] at h;exact wpAny_eqBool_str h
 «strs»:=fun k x t v h=>by
  rcases aE h with ⟨i,u,rfl,e⟩ | ⟨y,u,rfl,e⟩
  ·exact nomatch e
  ·injection e with e1 _;subst e1;cases v <;> rfl
end L2
namespace L2
open PySem PySem.Spec PyProof.Rows
inductive V where
 | non | bl (b:Bool) | int (i:Int) | str (x:Str) | byt (b:Array UInt8) | flt (b:UInt64) | ref (a:Addr) | ty (n:String)
 deriving DecidableEq
def RelV:V->Value->Prop
 | .non,u=>u=Value.none
 | .bl b,u=>u=Value.bool b
 | .int i,u=>∃ t,u=Value.int i t
 | .str x,u=>∃ t,u=Value.str x t
 | .byt b,u=>∃ t,u=Value.bytes b t
 | .flt b,u=>∃ t,u=Value.float b t
 | .ref a,u=>u=Value.ref a
 | .ty n,u=>u=Value.type n
abbrev Vals:List V->List Value->Prop:=Paired RelV
theorem Vals.length {xs:List V} {us:List Value} (r:Vals xs us):xs.length=us.length:=Paired.length r
theorem Vals.get:∀ {xs:List V} {us:List Value} {i:Nat} {x:V},Vals xs us->xs[i]?=some x->∃ u,us[i]?=some u/\RelV x u
 | _,_,_,_,.nil,e=>by simp at e
 | _,_,0,_,.cons r _,e=>by simp at e;subst e;exact ⟨_,rfl,r⟩
 | _,_,i+1,x,.cons _ t,e=>by
  obtain ⟨u,h1,h2⟩:=Vals.get (i:=i) (x:=x) t (by simpa using e);exact ⟨u,by simpa using h1,h2⟩
theorem Vals.set {x:V} {u:Value} (r:RelV x u):∀ {xs:List V} {us:List Value} (i:Nat),Vals xs us->Vals (xs.set i x) (us.set i u)
 | _,_,_,.nil=>.nil
 | _,_,0,.cons _ t=>.cons r t
 | _,_,i+1,.cons q t=>.cons q (Vals.set r i t)
theorem Vals.append:∀ {xs ys:List V} {us ws:List Value},Vals xs us->Vals ys ws->Vals (xs++ys) (us++ws)
 | _,_,_,_,.nil,s=>s
 | _,_,_,_,.cons r t,s=>.cons r (Vals.append t s)
theorem Vals.take:∀ {xs:List V} {us:List Value} (n:Nat),Vals xs us->Vals (xs.take n) (us.take n)
 | _,_,0,_=>.nil
 | _,_,_+1,.nil=>.nil
 | _,_,n+1,.cons r t=>.cons r (Vals.take n t)
theorem Vals.drop:∀ {xs:List V} {us:List Value} (n:Nat),Vals xs us->Vals (xs.drop n) (us.drop n)
 | _,_,0,r=>r
 | _,_,_+1,.nil=>.nil
 | _,_,n+1,.cons _ t=>Vals.drop n t
def EW:Option V->Option Value->Prop
 | some v,some u=>RelV v u
 | none,none=>True
 | _,_=>False
def KV {κ:Type}:List (κ×V)->List (κ×Value)->Prop:=Paired fun (p:κ×V) (q:κ×Value)=>p.1=q.1/\RelV p.2 q.2
noncomputable def kV:Key->V
 | .inl i=>.int i
 | .inr x=>.str x
mutual
noncomputable def aI (w:World):PyData->Int
 | .int i=>hashInt i
 | .str x=>hashStr w x
 | .tuple ds=>reduceHash (Builtin.Tuple.tupleHashOf (bV w ds))
 | _=>0
noncomputable def bV (w:World):List PyData->List Int
 | []=>[]
 | d :: ds=>aI w d :: bV w ds
end
def Fu (w:World) (x:PyData×V×V) (e:DictEntry):Prop:=e.hash=aI w x.1/\RelV x.2.1 e.key/\RelV x.2.2 e.val
inductive HO where
 /-- a list -/
 | lst (xs:List V)
 /-- a tuple (never changes) -/
 | tup (xs:List V)
 /-- a dict whose keys are ints and texts;one whose keys are tuples of ints and texts (the empty one is both) -/
 | dK (kvs:List (Key×V)) | dT (kvs:List (List Key×V))
 /-- a dict by any hashable data: its epoch;the keys as data and as values,what they hold -/
 | dD (ep:Nat) (xs:List (PyData×V×V))
 /-- a set of ints: its members,its size -/
 | set (S:Int->Bool) (n:Nat)
 /-- an instance of the class at C,its dict at dx,its attributes -/
 | ins (C dx:Addr) (fs:List (Str×V))
 /-- the dict of the instance at x -/
 | own (x:Addr)
 /-- the dict of an exception -/
 | xd (fs:List (Str×V))
 /-- a bound method,f of x -/
 | met (f x:Addr)
 /-- a range object lo,lo+1,.. below hi -/
 | rng (lo hi:Int)
 /-- a thing that is known to the object (the script;a dict while a loop walks it): read,never written while it is so -/
 | frz (o:Obj) (u:HO)
 /-- a code object's table -/
 | tbl (ps:Array Value)
 /-- any other thing,by what is true of its one object (a def of one's own: Bf a S n:=HO.ext fun h=>..) -/
 | ext (φ:Heap->Prop)
abbrev Hp:=Addr->Option HO
noncomputable def upd (H:Hp) (a:Addr) (o:HO):Hp:=fun b=>if b=a then some o else H b
theorem ai {H:Hp} {a:Addr} {o:HO}:upd H a o a=some o:=by unfold upd;rw [Gs rfl]
theorem ag {H:Hp} {a b:Addr} {o:HO} (h:b≠a):upd H a o b=H b:=by unfold upd;rw [Gy h]
theorem ak {H:Hp} {a b:Addr} {o:HO} (h:H a=some o) (h':H b=none):a≠b:=by
 intro e;subst e;rw [h] at h';cases h'
section
variable (P:Program) (w:World)
def df (H:Hp) (h:Heap) (a:Addr):HO->Prop
 | .lst xs=>xs.length<=sizeLine/\∃ (its:List Value) (n:Nat),Vals xs its/\h.get? a=some { cls:=.type "list", data:=.seq its.toArray n }
 | .tup xs=>xs.length<=sizeLine/\∃ its:List Value,Vals xs its/\IsTup h a its.toArray
 | .dK kvs=>kvs.length<=sizeLine/\(a==sysModules)=false/\∃ vs,KV kvs vs/\h.DictOf (kK P w) a vs
 | .dT kvs=>kvs.length<=sizeLine/\(a==sysModules)=false/\∃ xs:List (List Key×Addr×Value),
   Paired (fun (p:List Key×V) (q:List Key×Addr×Value)=>p.1=q.1/\H q.2.1=some (.tup (p.1.map kV))/\RelV p.2 q.2.2) kvs xs /\
   ∃ o es ep,h.get? a=some o/\o.ExactDict/\o.data=.dict es ep/\es.toList=xs.map (entryOfKey (tupleKind (kK P w)))/\(xs.map (·.1)).Nodup
 | .dD ep xs=>xs.length<=sizeLine/\(a==sysModules)=false/\(xs.map (·.1)).Nodup/\∃ o es,h.get? a=some o/\o.ExactDict/\o.data=.dict es ep/\Paired (Fu w) xs es.toList
 | .set S n=>h.SetOf (intKind P w) a S n
 | .ins C dx fs=>H dx=some (.own a)/\fs.length<=1000/\dx≠a/\h.get? a=some (PySem.W.instObj C dx) /\
   ∃ mA,h.Ns1 dx mA/\(∀ f,EW (fs.lookup f) (mA f))/\PySem.Within mA (fs.map (·.1))
 | .own _=>∃ o,h.get? a=some o
 | .xd fs=>∃ mA,h.Ns1 a mA/\∀ f,EW (fs.lookup f) (mA f)
 | .rng lo hi=>∃ t u v,h.get? a=some { cls:=.type "range", data:=.fields #[.int lo t,.int hi u,.int 1 v] }
 | .frz o u=>h.get? a=some o/\df H h a u
 | .tbl ps=>h.get? a=some { cls:=.none,data:=.fields ps }
 | .met f x=>h.get? a=some (PySem.W.methodObj (.ref f) (.ref x))
 | .ext φ=>φ h/\(∃ o,h.get? a=some o)/\∀ h1 h2:Heap,φ h1->(∀ o,h1.get? a=some o->h2.get? a=some o)->φ h2
def HOk (H:Hp) (h:Heap):Prop:=∀ a o,H a=some o->df P w H h a o
end
section
variable {P:Program} {w:World} {H H':Hp} {h h':Heap} {a:Addr} {o:HO}
theorem df.lt (x:df P w H h a o):a < h.objs.size:=by
 cases o with
 | lst xs=>obtain ⟨_,_,_,_,e⟩:=x;exact GA e
 | tup xs=>obtain ⟨_,_,_,p⟩:=x;exact p.lt
 | dK kvs=>obtain ⟨_,_,_,_,o,_,_,e,_⟩:=x;exact GA e
 | dT kvs=>obtain ⟨_,_,_,_,o,_,_,e,_⟩:=x;exact GA e
 | dD ep xs=>obtain ⟨_,_,_,o,_,e,_⟩:=x;exact GA e
 | set S n=>obtain ⟨o,_,_,_,e,_⟩:=x;exact GA e
 | ins C dx fs=>obtain ⟨_,_,_,e,_⟩:=x;exact GA e
 | own y=>obtain ⟨_,e⟩:=x;exact GA e
 | xd fs=>obtain ⟨_,⟨_,_,_,e,_⟩,_⟩:=x;exact GA e
 | rng lo hi=>obtain ⟨_,_,_,e⟩:=x;exact GA e
 | frz ob u=>obtain ⟨e,_⟩:=x;exact GA e
 | tbl ps=>exact GA (show h.get? a=some _ from x)
 | met f y=>exact GA (show h.get? a=some _ from x)
 | ext φ=>obtain ⟨_,⟨_,e⟩,_⟩:=x;exact GA e
theorem Paired.EB {α β:Type} {F G:α->β->Prop}:∀ {l₁:List α} {l₂:List β},Paired F l₁ l₂->(∀ a b,F a b->G a b)->Paired G l₁ l₂
 | _,_,.nil,_=>.nil
 | _,_,.cons r t,f=>.cons (f _ _ r) (Paired.EB t f)
theorem df.jo (x:df P w H h a o) (k:∀ b u,(b=a\/H b=some (.own a))->h.get? b=some u->h'.get? b=some u)
  (ho:∀ b,H b=some (.own a)->H' b=some (.own a)) (ht:∀ b xs,H b=some (.tup xs)->H' b=some (.tup xs)):df P w H' h' a o:=by
 induction o with
 | lst xs=>obtain ⟨z,its,n,r,e⟩:=x;exact ⟨z,its,n,r,k _ _ (.inl rfl) e⟩
 | tup xs=>obtain ⟨z,its,r,ob,e,c⟩:=x;exact ⟨z,its,r,ob,k _ _ (.inl rfl) e,c⟩
 | dK kvs=>obtain ⟨z,y,vs,r,ob,es,ep,e,c⟩:=x;exact ⟨z,y,vs,r,ob,es,ep,k _ _ (.inl rfl) e,c⟩
 | dT kvs =>
  obtain ⟨z,y,xs,r,ob,es,ep,e,c⟩:=x;exact ⟨z,y,xs,Paired.EB r fun p q z=>⟨z.1,ht _ _ z.2.1,z.2.2⟩,ob,es,ep,k _ _ (.inl rfl) e,c⟩
 | dD ep xs=>obtain ⟨z,y,nd,ob,es,e,c⟩:=x;exact ⟨z,y,nd,ob,es,k _ _ (.inl rfl) e,c⟩
 | set S n=>obtain ⟨ob,es,ep,t,e,c⟩:=x;exact ⟨ob,es,ep,t,k _ _ (.inl rfl) e,c⟩
 | ins C dx fs =>
  obtain ⟨d,z,ne,e,mA,⟨od,es,ep,e2,c⟩,r⟩:=x;exact ⟨ho _ d,z,ne,k _ _ (.inl rfl) e,mA,⟨od,es,ep,k _ _ (.inr d) e2,c⟩,r⟩
 | own y=>obtain ⟨ob,e⟩:=x;exact ⟨ob,k _ _ (.inl rfl) e⟩
 | xd fs=>obtain ⟨mA,⟨od,es,ep,e,c⟩,r⟩:=x;exact ⟨mA,⟨od,es,ep,k _ _ (.inl rfl) e,c⟩,r⟩
 | rng lo hi=>obtain ⟨t,u,v,e⟩:=x;exact ⟨t,u,v,k _ _ (.inl rfl) e⟩
 | frz ob u ih=>obtain ⟨e,q⟩:=x;exact ⟨k _ _ (.inl rfl) e,ih q⟩
 | tbl ps =>
  have e:h.get? a=some { cls:=.none,data:=.fields ps }:=x;show h'.get? a=some { cls:=.none,data:=.fields ps };exact k a _ (.inl rfl) e
 | met f y =>
  have e:h.get? a=some (PySem.W.methodObj (.ref f) (.ref y)):=x;show h'.get? a=some (PySem.W.methodObj (.ref f) (.ref y));exact k a _ (.inl rfl) e
 | ext φ=>obtain ⟨p,⟨o,e⟩,st⟩:=x;exact ⟨st _ _ p fun o q=>k _ _ (.inl rfl) q,⟨o,k _ _ (.inl rfl) e⟩,st⟩
theorem HOk.lt (x:HOk P w H h) (e:H a=some o):a < h.objs.size:=(x a o e).lt
theorem HOk.fresh (x:HOk P w H h) (e:h.objs.size<=a):H a=none:=by
 cases q:H a with
 | none=>rfl
 | some u=>exact absurd (GD (x.lt q) e) (Hd _)
theorem HOk.kept (x:HOk P w H h) (k:∀ b u,h.get? b=some u->h'.get? b=some u):HOk P w H h':=fun a o e =>
 (x a o e).jo (fun b u _ q=>k b u q) (fun _ q=>q) fun _ _ q=>q
theorem HOk.laid (x:HOk P w H h) (k:∀ b u,h.get? b=some u->h'.get? b=some u) (hp:h.objs.size<=a) (new:df P w (upd H a o) h' a o):HOk P w (upd H a o) h':=fun b u e=>by
 have hn:=x.fresh hp;by_cases hb:b=a
 ·subst hb;rw [ai] at e;cases e;exact new
 ·rw [ag hb] at e;exact (x b u e).jo (fun c v _ q=>k c v q) (fun c q=>by rw [ag (ak q hn)];exact q) fun c xs q=>by rw [ag (ak q hn)];exact q
end
def Rd (H:Hp) (a:Addr) (u:HO):Prop:=H a=some u\/∃ o,H a=some (.frz o u)
theorem Rd.ok {P:Program} {w:World} {H:Hp} {h:Heap} {a:Addr} {u:HO} (r:Rd H a u) (x:HOk P w H h):df P w H h a u:=by
 rcases r with r | ⟨o,r⟩
 ·exact x a u r
 ·obtain ⟨_,q⟩:=x a _ r;exact q
def Mut:Option HO->Prop
 | some (.lst _)=>True
 | some (.dK _)=>True
 | some (.dT _)=>True
 | some (.dD _ _)=>True
 | some (.set _ _)=>True
 | some (.ins _ _ _)=>True
 | some (.ext _)=>True
 | _=>False
section
variable {P:Program} {w:World} {H:Hp} {h h':Heap} {x e:Addr} {o':HO}
theorem HOk.write (ok:HOk P w H h) (mu:Mut (H x)) (he:e=x\/H e=some (.own x)) (k:∀ b u,b≠e->h.get? b=some u->h'.get? b=some u) (heo:∃ u,h'.get? e=some u)
  (new:df P w (upd H x o') h' x o'):HOk P w (upd H x o') h':=fun b u q=>by
 have nown:∀ c y,H c=some (.own y)->c≠x:=fun c y r z=>by subst z;rw [r] at mu;exact mu
 have ntup:∀ c xs,H c=some (.tup xs)->c≠x:=fun c xs r z=>by subst z;rw [r] at mu;exact mu
 by_cases hb:b=x
 ·subst hb;rw [ai] at q;cases q;exact new
 ·rw [ag hb] at q;by_cases hbe:b=e
  ·have q':H b=some (.own x):=by
    rcases he with z | z
    ·exact absurd (hbe.trans z) hb
    ·rw [hbe];exact z
   rw [q] at q';cases q';obtain ⟨v,hv⟩:=heo;exact ⟨v,by rw [hbe];exact hv⟩
  ·refine (ok b u q).jo (fun c v hc r=>k c v ?_ r) (fun c r=>by rw [ag (nown c b r)];exact r) fun c xs r=>by rw [ag (ntup c xs r)];exact r
   rcases hc with rfl | hc
   ·exact hbe
   ·rintro rfl;rcases he with z | z
    ·exact nown c b hc z
    ·rw [hc] at z;cases z;exact hb rfl
end
structure Un (fs ex:List Addr) (H H':Hp) (h h':Heap):Prop where
 keep:∀ b o,h.get? b=some o->H b=none->b ∉ fs->b ∉ ex->h'.get? b=some o
 slot:∀ b o,h.get? b=some o->H b=none->b∈fs->b ∉ ex->∃ sl,h'.get? b=some { o with slots:=sl }
 free:∀ b o,h.get? b=some o->H b=none->b ∉ ex->H' b=none
 there:∀ b o,h.get? b=some o->b ∉ ex->∃ o',h'.get? b=some o'
 nB:∀ b xs,H b=some (.tup xs)->H' b=some (.tup xs)
 mV:∀ b o u,H b=some (.frz o u)->H' b=some (.frz o u)
 qT:∀ b ps,H b=some (.tbl ps)->∃ more,H' b=some (.tbl (ps++more))
section
variable {fs fs' ex ex':List Addr} {H H1 H2:Hp} {h h1 h2 h':Heap} {a x e:Addr} {o:HO}
theorem Un.any (u:Un fs ex H H1 h h1) {b:Addr} {ob:Obj} (q:h.get? b=some ob) (n:H b=none) (hx:b ∉ ex):∃ sl,h1.get? b=some { ob with slots:=sl }:=by
 by_cases hb:b∈fs
 ·exact u.slot b ob q n hb hx
 ·exact ⟨ob.slots,u.keep b ob q n hb hx⟩
theorem Un.kept (k:∀ b u,h.get? b=some u->h'.get? b=some u):Un fs ex H H h h' :=
 ⟨fun b ob q _ _ _=>k b ob q,fun b ob q _ _ _=>⟨ob.slots,k b ob q⟩,fun _ _ _ n _=>n,fun b ob q _=>⟨ob,k b ob q⟩,fun _ _ q=>q,fun _ _ _ q=>q,fun _ ps q=>⟨#[],by rw [q];simp⟩⟩
theorem Un.refl:Un fs ex H H h h:=Un.kept fun _ _ q=>q
theorem Un.laid (k:∀ b u,h.get? b=some u->h'.get? b=some u) (hp:h.objs.size<=a) (hn:H a=none):Un fs ex H (upd H a o) h h' where
 keep:=fun b u q _ _ _=>k b u q
 slot:=fun b u q _ _ _=>⟨u.slots,k b u q⟩
 free:=fun b u q n _=>by rw [ag (GK (GD (GA q) hp))];exact n
 there:=fun b u q _=>⟨u,k b u q⟩
 nB:=fun b xs q=>by rw [ag (ak q hn)];exact q
 mV:=fun b u xs q=>by rw [ag (ak q hn)];exact q
 qT:=fun b ps q=>⟨#[],by rw [ag (ak q hn),q];simp⟩
theorem Un.write (mu:Mut (H x)) (he:e=x\/H e=some (.own x)) (k:∀ b u,b≠e->h.get? b=some u->h'.get? b=some u) (heo:∃ u,h'.get? e=some u):Un fs ex H (upd H x o) h h':=by
 have hx:∀ b,H b=none->b≠x:=fun b n z=>by subst z;rw [n] at mu;exact mu
 have hb:∀ b,H b=none->b≠e:=fun b n z=>by
  subst z;rcases he with r | r
  ·exact hx b n r
  ·rw [n] at r;cases r
 have hm:∀ b u,H b=some u->¬Mut (some u)->b≠x:=fun b u q nm z=>by subst z;rw [q] at mu;exact nm mu
 refine ⟨fun b u q n _ _=>k b u (hb b n) q,fun b u q n _ _=>⟨u.slots,k b u (hb b n) q⟩,fun b u q n _=>by rw [ag (hx b n)];exact n,fun b u q _=>?_,
  fun b xs q=>by rw [ag (hm b _ q fun z=>z)];exact q,fun b u xs q=>by rw [ag (hm b _ q fun z=>z)];exact q,fun b ps q=>⟨#[],by rw [ag (hm b _ q fun z=>z),q];simp⟩⟩
 by_cases hbe:b=e
 ·subst hbe;exact heo
 ·exact ⟨u,k b u hbe q⟩
end
noncomputable def trk (h:Heap) (H:Hp):List Addr:=(List.range h.objs.size).filter fun a=>(H a).isSome
noncomputable def sO (h:Heap) (H:Hp):Heap:=PySem.W.hideAll h (trk h H)
theorem oa (h:Heap) (H:Hp):(sO h H).objs.size=h.objs.size:=PySem.W.hideAll_size _ _
theorem rM {h:Heap} {H:Hp} {b:Addr} {o:Obj} (e:h.get? b=some o) (n:H b=none):(sO h H).get? b=some o :=
 PySem.W.hideAll_get _ e fun hm=>by
  have q:(H b).isSome=true:=(List.mem_filter.mp hm).2;rw [n] at q;simp at q
theorem vQ {h:Heap} {H:Hp} {b:Addr} {o:Obj} (e:(sO h H).get? b=some o):h.get? b=some o/\H b=none:=by
 have e':h.get? b=some o:=PySem.W.of_hideAll (trk h H) e;refine ⟨e',?_⟩;cases q:H b with
 | none=>rfl
 | some x =>
  have hm:b∈trk h H:=List.mem_filter.mpr ⟨List.mem_range.mpr (GA e'),by simp [q]⟩;have z:(sO h H).get? b=none:=PySem.W.hideAll_none (trk h H) hm;rw [z] at e;cases e
noncomputable def xh (g h:Heap) (L:Addr):List (Addr×Obj):=(List.range h.objs.size).filterMap fun a=>if a=L\/(g.get? a).isSome=true then none else (h.get? a).map fun o=>(a,o)
noncomputable def rest (g h:Heap) (L d:Addr):List (Addr×Obj):=(xh g h L).filter fun p=>decide (p.1≠d)
end L2
namespace L2
open PySem PySem.Spec PyProof.Rows
structure Mod (K:Fg) (mg:Str->Option Value) (base:Heap):Prop where
 kin:K.In base
 glob:base.Ns mainGlobals mg
 blt:∃ mb,base.Ns builtinsNs mb/\∀ x:Str,x ≠ "__name__" -> mb x=bootBuiltins x
 nolimit:base.NoLimit
structure Cx where
 prog:Program
 w:World
 K:Fg
 mg:Str->Option Value
 base:Heap
 A:Around
 N:List Str
 s₀:Shared
 H₀:Hp
 env:Env
 outer:List Env
 stack:List Env
 ex:List Addr
 fn:Str->Bool
 calm:Bool
 pn:List (Addr×Obj)
 xe:Value->Shared->Prop
noncomputable def frs (l:List Env):List Addr:=l.filterMap (·.frame)
noncomputable abbrev Cx.fs (X:Cx):List Addr:=frs X.outer
def Vis (sc:Scope) (x:Str):Prop:=sc.names.lookup x=some .local\/sc.names.lookup x=some .cell\/sc.names.lookup x=some .free
def Loc (sc:Scope) (x:Str):Prop:=sc.names.lookup x=some .local\/sc.names.lookup x=some .cell
def Look (env:Env) (h:Heap) (m:Str->Option Value) (x:Str) (u:Value):Prop :=
 (env.kindOf x=some .local/\m x=some u)\/((env.kindOf x=some .cell\/env.kindOf x=some .free)/\∃ c,env.cells.lookup x=some c/\h.IsCell c (some u))
structure Cx.Ok (X:Cx):Prop where
 mod:Mod X.K X.mg X.base
 kind:X.env.scope.kind=.function
 glob:X.env.globals=mainGlobals
 blt:X.env.builtins=builtinsNs
 above:X.s₀.heap.objs.size<=X.env.locals
 inj:∀ x y c,X.env.cells.lookup x=some c->X.env.cells.lookup y=some c->x=y
 has:∀ x,(X.env.kindOf x=some .cell\/X.env.kindOf x=some .free)->∃ c,X.env.cells.lookup x=some c
 cab:∀ x c,X.fn x=true->X.env.cells.lookup x=some c->X.s₀.heap.objs.size<=c
 hd:X.calm=true->X.A.handled=none
 frames:X.A.frames=some X.stack
 stk:X.stack=X.outer\/(X.stack=X.env :: X.outer/\X.env.frame=some X.env.locals)
 exf:∀ b∈X.ex,b≠X.env.locals/\∀ x c,X.env.cells.lookup x=some c->c≠b
 bs:∀ b o,X.base.get? b=some o->X.s₀.heap.get? b=some o/\X.H₀ b=none
 bsz:X.base.objs.size<=X.s₀.heap.objs.size
 xq:∀ b o,X.base.get? b=some o->b ∉ X.ex
 Bd:∀ b∈X.ex,b ∉ X.fs
 pe:X.s₀.heap.FunFrames X.base X.outer
 frf:∀ b∈X.fs,X.H₀ b=none
structure Inv (X:Cx) (pins:List (Addr×Obj)) (σ:List (Option V)) (H:Hp) (s:Shared):Prop where
 ok:X.Ok
 os:s.os=X.s₀.os
 bare:AllBare s.gens
 base:Un X.fs X.ex X.H₀ H X.s₀.heap s.heap
 loc:∃ m,s.heap.Ns X.env.locals m/\∀ (i:Nat) (x:Str) (v:V),X.N[i]?=some x->σ[i]?=some (some v)->Vis X.env.scope x->∃ u,RelV v u/\Look X.env s.heap m x u
 cell:∀ x c,X.env.cells.lookup x=some c->∃ v,s.heap.IsCell c v
 free:H X.env.locals=none
 fD:∀ x c,X.env.cells.lookup x=some c->H c=none
 pin:∀ p∈X.pn++pins,s.heap.get? p.1=some p.2/\H p.1=none/\p.1≠X.env.locals/\p.1 ∉ X.fs/\∀ v,p.2.data≠.cell v
 hok:HOk X.prog X.w H s.heap
 len:σ.length=X.N.length
section
variable {X:Cx} {pins:List (Addr×Obj)} {σ:List (Option V)} {H H':Hp} {s:Shared} {h':Heap}
theorem Cx.Ok.F9 (ok:X.Ok) {b:Addr} {o:Obj} (e:X.base.get? b=some o):b ∉ X.fs:=fun hb=>by
 have:=(ok.pe.mem hb).1;rw [e] at this;cases this
theorem Inv.bs (I:Inv X pins σ H s):∀ b o,X.base.get? b=some o->s.heap.get? b=some o/\H b=none:=fun b o e =>
 ⟨I.base.keep b o (I.ok.bs b o e).1 (I.ok.bs b o e).2 (I.ok.F9 e) (I.ok.xq b o e),I.base.free b o (I.ok.bs b o e).1 (I.ok.bs b o e).2 (I.ok.xq b o e)⟩
theorem Inv.bk (I:Inv X pins σ H s):∀ b o,X.base.get? b=some o->s.heap.get? b=some o:=fun b o e=>(I.bs b o e).1
theorem Inv.mod (I:Inv X pins σ H s):Mod X.K X.mg X.base:=I.ok.mod
theorem Inv.kIn (I:Inv X pins σ H s):X.K.In s.heap:=I.ok.mod.kin.keeps I.bk
theorem Inv.lt (I:Inv X pins σ H s):X.env.locals < s.heap.objs.size:=let ⟨_,hn,_⟩:=I.loc;hn.lt
theorem Inv.sz (I:Inv X pins σ H s):X.s₀.heap.objs.size<=s.heap.objs.size:=GU I.ok.above (Jg I.lt)
theorem Inv.Br (I:Inv X pins σ H s) {a:Addr} (h:s.heap.objs.size<=a):a ∉ X.fs:=fun hb=>by
 obtain ⟨_,o,ho,_⟩:=I.ok.pe.mem hb;exact absurd (GD (GA ho) (GU I.sz h)) (Hd _)
theorem Inv.cne (I:Inv X pins σ H s):∀ x c,X.env.cells.lookup x=some c->c≠X.env.locals:=fun x c e z=>by
 obtain ⟨v,o,ho,hd⟩:=I.cell x c e;obtain ⟨m,⟨o',es,ep,ho',hd',_⟩,_⟩:=I.loc;rw [z,ho'] at ho;cases ho;rw [hd'] at hd;cases hd
theorem Inv.pe (I:Inv X pins σ H s):s.heap.FunFrames X.base X.outer:=by
 have all:∀ (l:List Env),(∀ b∈frs l,b∈X.fs)->X.s₀.heap.FunFrames X.base l->s.heap.FunFrames X.base l:=by
  intro l;induction l with
  | nil=>intro _ _;trivial
  | cons env r ih =>
   intro hs hl;obtain ⟨hk,⟨L,o,hf,hn,ho,hd⟩,hr⟩:=hl;have hL:L∈X.fs:=hs L (by unfold frs;rw [List.filterMap_cons,hf];exact Gm);obtain ⟨sl,e⟩:=I.base.slot L o ho (I.ok.frf L hL) hL fun z=>I.ok.Bd L z hL;exact ⟨hk,⟨L,_,hf,hn,e,hd⟩,ih (fun b hb=>hs b (by unfold frs;rw [List.filterMap_cons,hf];exact Gp _ hb)) hr⟩
 exact all X.outer (fun _ hb=>hb) I.ok.pe
theorem Inv.stack (I:Inv X pins σ H s):s.heap.FunFrames X.base X.stack:=by
 rcases I.ok.stk with e | ⟨e,hf⟩
 ·rw [e];exact I.pe
 ·rw [e];obtain ⟨m,hn,_⟩:=I.loc;refine .cons (by rw [I.ok.kind];decide) hf hn ?_ I.pe;exact Heap.get?_none_of_le (GU I.ok.bsz I.ok.above)
theorem Inv.ml (I:Inv X pins σ H s):∀ b∈frs X.stack,b∈X.env.locals :: X.fs:=fun b hb=>by
 rcases I.ok.stk with e | ⟨e,hf⟩
 ·rw [e] at hb;exact Gp _ hb
 ·rw [e] at hb;unfold frs at hb;rw [List.filterMap_cons,hf] at hb;exact hb
theorem Inv.k9 (I:Inv X pins σ H s):∀ b∈frs X.stack,H b=none:=fun b hb=>by
 rcases Gv.mp (I.ml b hb) with e | hb
 ·rw [e];exact I.free
 ·obtain ⟨_,o,ho,_⟩:=I.ok.pe.mem hb;exact I.base.free b o ho (I.ok.frf b hb) fun z=>I.ok.Bd b z hb
theorem Inv.step {g':Array GenState} {t':Nat} {d':Drawn} {ch:List Addr} (I:Inv X pins σ H s)
  (hch:∀ b∈ch,(b∈X.ex\/X.s₀.heap.objs.size<=b)/\b≠X.env.locals/\(∀ x c,X.env.cells.lookup x=some c->c≠b)/\∀ p∈X.pn++pins,p.1≠b)
  (keep:∀ b o,b≠X.env.locals->b ∉ X.fs->b ∉ ch->s.heap.get? b=some o->H b=none->h'.get? b=some o)
  (slot:∀ b o,b≠X.env.locals->b∈X.fs->b ∉ ch->s.heap.get? b=some o->H b=none->∃ sl,h'.get? b=some { o with slots:=sl }) (free:∀ b o,b ∉ ch->s.heap.get? b=some o->H b=none->H' b=none)
  (there:∀ b o,b ∉ ch->s.heap.get? b=some o->∃ o',h'.get? b=some o')
  (nB:∀ b xs,H b=some (.tup xs)->H' b=some (.tup xs)) (mV:∀ b o u,H b=some (.frz o u)->H' b=some (.frz o u)) (qT:∀ b ps,H b=some (.tbl ps)->∃ more,H' b=some (.tbl (ps++more)))
  (ns:∀ m,s.heap.Ns X.env.locals m->h'.Ns X.env.locals m) (hok:HOk X.prog X.w H' h') (hg:AllBare g') :
  Inv X pins σ H' { s with heap:=h',gens:=g',drawn:=d',toks:=t' }:=by
 have neL:∀ b o,X.s₀.heap.get? b=some o->b≠X.env.locals:=fun b o e=>GK (GD (GA e) I.ok.above);have neC:∀ b o,X.s₀.heap.get? b=some o->b ∉ X.ex->b ∉ ch:=fun b o e hx hb=>by
  rcases (hch b hb).1 with z | z
  ·exact hx z
  ·exact absurd (GD (GA e) z) (Hd _)
 have cellK:∀ x c,X.env.cells.lookup x=some c->∀ v,s.heap.IsCell c v->h'.IsCell c v:=fun x c e v ⟨o,ho,hd⟩=>by
  have nch:c ∉ ch:=fun z=>(hch c z).2.2.1 x c e rfl;by_cases hc:c∈X.fs
  ·obtain ⟨sl,q⟩:=slot c o (I.cne x c e) hc nch ho (I.fD x c e);exact ⟨_,q,hd⟩
  ·exact ⟨o,keep c o (I.cne x c e) hc nch ho (I.fD x c e),hd⟩
 refine ⟨I.ok,I.os,hg,⟨fun b o e n hb hx=>?_,fun b o e n hb hx=>?_,fun b o e n hx=>?_,fun b o e hx=>?_,fun b xs e=>nB b xs (I.base.nB b xs e),fun b o xs e=>mV b o xs (I.base.mV b o xs e),fun b ps e=>?_⟩,?_,fun x c e=>?_,?_,fun x c e=>?_,fun p hp=>?_,hok,I.len⟩
 ·exact keep b o (neL b o e) hb (neC b o e hx) (I.base.keep b o e n hb hx) (I.base.free b o e n hx)
 ·obtain ⟨sl,e1⟩:=I.base.slot b o e n hb hx;obtain ⟨sl',e2⟩:=slot b _ (neL b o e) hb (neC b o e hx) e1 (I.base.free b o e n hx);exact ⟨sl',e2⟩
 ·obtain ⟨o',e1⟩:=I.base.there b o e hx;exact free b o' (neC b o e hx) e1 (I.base.free b o e n hx)
 ·obtain ⟨o',e1⟩:=I.base.there b o e hx;exact there b o' (neC b o e hx) e1
 ·obtain ⟨m1,e1⟩:=I.base.qT b ps e;obtain ⟨m2,e2⟩:=qT b _ e1;exact ⟨m1++m2,by rw [e2,Array.append_assoc]⟩
 ·obtain ⟨m,hn,hl⟩:=I.loc;refine ⟨m,ns m hn,fun i x v e1 e2 e3=>?_⟩;obtain ⟨u,r,l⟩:=hl i x v e1 e2 e3;refine ⟨u,r,?_⟩;rcases l with l | ⟨k,c,e,z⟩
  ·exact .inl l
  ·exact .inr ⟨k,c,e,cellK x c e _ z⟩
 ·obtain ⟨v,z⟩:=I.cell x c e;exact ⟨v,cellK x c e v z⟩
 ·obtain ⟨m,⟨o,_,_,ho,_⟩,_⟩:=I.loc;exact free _ o (fun z=>(hch _ z).2.1 rfl) ho I.free
 ·obtain ⟨v,o,ho,hd⟩:=I.cell x c e;exact free c o (fun z=>(hch c z).2.2.1 x c e rfl) ho (I.fD x c e)
 ·obtain ⟨e,n,ne,nf,d⟩:=I.pin p hp;have nch:p.1 ∉ ch:=fun z=>(hch p.1 z).2.2.2 p hp rfl;exact ⟨keep p.1 p.2 ne nf nch e n,free p.1 p.2 nch e n,ne,nf,d⟩
theorem Inv.un {t':Nat} (I:Inv X pins σ H s) (u:Un X.fs [] H H' s.heap h') (hok:HOk X.prog X.w H' h'):Inv X pins σ H' { s with heap:=h',toks:=t' }:=by
 obtain ⟨m,⟨o,es,ep,ho,r⟩,_⟩:=id I.loc;obtain ⟨sl,hL⟩:=u.any ho I.free (by simp)
 exact I.step (g':=s.gens) (d':=s.drawn) (ch:=[]) (fun _ z=>nomatch z) (fun b o _ hb _ e n=>u.keep b o e n hb (by simp)) (fun b o _ hb _ e n=>u.slot b o e n hb (by simp)) (fun b o _ e n=>u.free b o e n (by simp)) (fun b o _ e=>u.there b o e (by simp)) u.nB u.mV u.qT (fun m' hm=>by
  obtain ⟨o',es',ep',ho',r'⟩:=hm;rw [ho] at ho';cases ho'
  exact ⟨_,es',ep',hL,r'⟩) hok I.bare
theorem Inv.call {g':Array GenState} {t':Nat} {d':Drawn} {ch:List Addr} (I:Inv X pins σ H s) (u:Un (frs X.stack) ch H H' s.heap h') (hok:HOk X.prog X.w H' h') (hg:AllBare g')
  (hch:∀ b∈ch,(b∈X.ex\/X.s₀.heap.objs.size<=b)/\b≠X.env.locals/\(∀ x c,X.env.cells.lookup x=some c->c≠b)/\∀ p∈X.pn++pins,p.1≠b) :
  Inv X pins σ H' { s with heap:=h',gens:=g',drawn:=d',toks:=t' }:=by
 obtain ⟨m,⟨o,es,ep,ho,r⟩,_⟩:=id I.loc;obtain ⟨sl,hL⟩:=u.any ho I.free fun z=>(hch _ z).2.1 rfl
 exact I.step (ch:=ch) hch (fun b o hL hb hc e n=>u.keep b o e n (fun z=>(Gv.mp (I.ml b z)).elim hL hb) hc) (fun b o _ _ hc e n=>u.any e n hc) (fun b o hc e n=>u.free b o e n hc) (fun b o hc e=>u.there b o e hc) u.nB u.mV u.qT (fun m' hm=>by
  obtain ⟨o',es',ep',ho',r'⟩:=hm;rw [ho] at ho';cases ho'
  exact ⟨_,es',ep',hL,r'⟩) hok hg
theorem Inv.turned {t':Nat} {it:Addr} (I:Inv X pins σ H s) (k:∀ b o,b≠it->s.heap.get? b=some o->h'.get? b=some o) (hn:H it=none) (hL:it≠X.env.locals)
  (h1:it∈X.ex\/X.s₀.heap.objs.size<=it) (h2:∀ x c,X.env.cells.lookup x=some c->c≠it) (h3:∀ p∈X.pn++pins,p.1≠it):Inv X pins σ H { s with heap:=h',toks:=t' }:=by
 have nit:∀ b u,H b=some u->b≠it:=fun b u e z=>by rw [z,hn] at e;cases e
 refine I.step (g':=s.gens) (d':=s.drawn) (ch:=[it]) (fun b hb=>?_) (fun b o _ _ hc e _=>k b o (fun z=>hc (by simp [z])) e) (fun b o _ _ hc e _=>⟨o.slots,k b o (fun z=>hc (by simp [z])) e⟩) (fun _ _ _ _ n=>n)
  (fun b o hc e=>⟨o,k b o (fun z=>hc (by simp [z])) e⟩) (fun _ _ e=>e) (fun _ _ _ e=>e) (fun b ps e=>⟨#[],by rw [e];simp⟩) (fun m hm=>?_) (fun b u e=>?_) I.bare
 ·have e:b=it:=by simpa using hb
  subst e;exact ⟨h1,hL,h2,h3⟩
 ·obtain ⟨o,es,ep,ho,r⟩:=hm;exact ⟨o,es,ep,k _ o (Ne.symm hL) ho,r⟩
 ·refine (I.hok b u e).jo (fun c v hc q=>k c v ?_ q) (fun _ q=>q) fun _ _ q=>q;rcases hc with z | z
  ·rw [z];exact nit b u e
  ·exact nit c _ z
theorem Inv.tok (I:Inv X pins σ H s) (t:Nat):Inv X pins σ H { s with toks:=t }:=I.un (h':=s.heap) (t':=t) Un.refl I.hok
theorem Inv.kept {t':Nat} (I:Inv X pins σ H s) (k:∀ b u,s.heap.get? b=some u->h'.get? b=some u):Inv X pins σ H { s with heap:=h',toks:=t' }:=I.un (Un.kept k) (I.hok.kept k)
theorem Inv.laid {a:Addr} {o:HO} {t':Nat} (I:Inv X pins σ H s) (k:∀ b u,s.heap.get? b=some u->h'.get? b=some u) (hp:s.heap.objs.size<=a) (new:df X.prog X.w (upd H a o) h' a o) :
  Inv X pins σ (upd H a o) { s with heap:=h',toks:=t' }:=I.un (Un.laid k hp (I.hok.fresh hp)) (I.hok.laid k hp new)
theorem Inv.write {x e:Addr} {o:HO} {t':Nat} (I:Inv X pins σ H s) (mu:Mut (H x)) (he:e=x\/H e=some (.own x)) (k:∀ b u,b≠e->s.heap.get? b=some u->h'.get? b=some u) (heo:∃ u,h'.get? e=some u)
  (new:df X.prog X.w (upd H x o) h' x o):Inv X pins σ (upd H x o) { s with heap:=h',toks:=t' }:=I.un (Un.write mu he k heo) (I.hok.write mu he k heo new)
theorem Inv.cC {pins':List (Addr×Obj)} (I:Inv X pins σ H s) (h:∀ p∈pins',s.heap.get? p.1=some p.2/\H p.1=none/\p.1≠X.env.locals/\p.1 ∉ X.fs/\∀ v,p.2.data≠.cell v):Inv X pins' σ H s :=
 ⟨I.ok,I.os,I.bare,I.base,I.loc,I.cell,I.free,I.fD,fun p hp=>(GS.mp hp).elim (fun z=>I.pin p (GQ _ z)) (h p),I.hok,I.len⟩
theorem mf {N:List Str} (hN:N.Nodup) {i j:Nat} {x:Str} (a:N[i]?=some x) (b:N[j]?=some x):i=j:=by
 obtain ⟨h1,e1⟩:=Gh.mp a;obtain ⟨h2,e2⟩:=Gh.mp b;exact (List.getElem_inj hN).mp (e1.trans e2.symm)
theorem n3 {M:Model} {A:Around} {E:Value->Shared->Prop} {i:Nat} {x:Str} {v:V} {u:Value} {Q:Unit->Shared->Prop} (I:Inv X pins σ H s) (hN:X.N.Nodup) (hi:X.N[i]?=some x) (hx:Loc X.env.scope x) (r:RelV v u)
  (h:∀ s',Inv X pins (σ.set i (some v)) H s'->(∃ a,Heap.SameBut a s.heap s'.heap/\(a=X.env.locals\/X.env.cells.lookup x=some a))->Q () s') (hf:X.fn x=true\/X.env.scope.names.lookup x=some .local:=by first | exact .inl rfl | exact .inr rfl | assumption):wpAny M A (storeName X.env x u) Q E s:=by
 obtain ⟨m,hn,hl⟩:=id I.loc;have hcls:(X.env.scope.kind==.class||(X.env.scope.kind==.module&&X.env.locals != X.env.globals))=false:=by rw [I.ok.kind];rfl
 have hiσ:i < σ.length:=by rw [I.len];exact (Gh.mp hi).1
 have cne:=I.cne;have tracked:∀ {a:Addr} {h':Heap},(∃ o,s.heap.get? a=some o/\H a=none)->Heap.SameBut a s.heap h'->HOk X.prog X.w H h':=fun {a h'} ha hs b ob e=>by
  obtain ⟨_,_,hfree⟩:=ha;refine (I.hok b ob e).jo (fun c w' hc q=>(hs.2 c ?_).trans q) (fun _ q=>q) fun _ _ q=>q;rintro rfl;rcases hc with rfl | hc
  ·rw [hfree] at e;cases e
  ·rw [hfree] at hc;cases hc
 rcases hx with hk | hk
 ·refine wpAny_storeName_local hk hn (fun h' hn' hs=>?_) hcls;obtain ⟨oL,_,_,hoL,_⟩:=id hn;refine h _ ⟨I.ok,I.os,I.bare,⟨fun b o e n hb hx=>?_,fun b o e n hb hx=>?_,I.base.free,fun b o e hx=>?_,I.base.nB,I.base.mV,I.base.qT⟩,⟨_,hn',fun j y v' e1 e2 e3=>?_⟩,fun y c e=>?_,I.free,I.fD,fun p hp=>?_,tracked ⟨oL,hoL,I.free⟩ hs,by simpa using I.len⟩ ⟨_,hs,.inl rfl⟩
  ·exact (hs.2 b (GK (GD (GA e) I.ok.above))).trans (I.base.keep b o e n hb hx)
  ·obtain ⟨sl,e1⟩:=I.base.slot b o e n hb hx;exact ⟨sl,(hs.2 b (GK (GD (GA e) I.ok.above))).trans e1⟩
  ·obtain ⟨o',e1⟩:=I.base.there b o e hx;exact ⟨o',(hs.2 b (GK (GD (GA e) I.ok.above))).trans e1⟩
  ·by_cases hj:j=i
   ·subst hj;rw [hi] at e1;cases e1;rw [GC hiσ] at e2;cases e2;exact ⟨u,r,.inl ⟨hk,by simp⟩⟩
   ·rw [Gk (Ne.symm hj)] at e2;obtain ⟨u',r',q⟩:=hl j y v' e1 e2 e3;refine ⟨u',r',?_⟩;rcases q with ⟨k,e⟩ | ⟨k,c,e,z⟩
    ·refine .inl ⟨k,?_⟩;have:y≠x:=fun e=>hj (mf hN e1 (e▸hi));simp [this,e]
    ·exact .inr ⟨k,c,e,z.sameBut hs (cne y c e)⟩
  ·obtain ⟨w',z⟩:=I.cell y c e;exact ⟨w',z.sameBut hs (cne y c e)⟩
  ·obtain ⟨e,n,ne,nf,d⟩:=I.pin p hp;exact ⟨(hs.2 p.1 ne).trans e,n,ne,nf,d⟩
 ·have hfn:X.fn x=true:=by
   rcases hf with z | z
   ·exact z
   ·rw [z] at hk;cases hk
  obtain ⟨c,hc⟩:=I.ok.has x (.inl hk);obtain ⟨w',z⟩:=I.cell x c hc;refine wpAny_storeName_cell I.ok.kind hk hc z (fun h' hc' hs=>?_);obtain ⟨oc,hoc,hocd⟩:=id z;refine h { s with heap:=h' } ⟨I.ok,I.os,I.bare,⟨fun b o e n hb hx=>?_,fun b o e n hb hx=>?_,I.base.free,fun b o e hx=>?_,I.base.nB,I.base.mV,I.base.qT⟩,⟨m,hn.sameBut hs (Ne.symm (cne x c hc)),fun j y v' e1 e2 e3=>?_⟩,fun y c' e=>?_,I.free,I.fD,fun p hp=>?_,tracked ⟨oc,hoc,I.fD x c hc⟩ hs,by simpa using I.len⟩ ⟨c,hs,.inr hc⟩
  ·exact (hs.2 b (GK (GD (GA e) (I.ok.cab x c hfn hc)))).trans (I.base.keep b o e n hb hx)
  ·obtain ⟨sl,e1⟩:=I.base.slot b o e n hb hx;exact ⟨sl,(hs.2 b (GK (GD (GA e) (I.ok.cab x c hfn hc)))).trans e1⟩
  ·obtain ⟨o',e1⟩:=I.base.there b o e hx;exact ⟨o',(hs.2 b (GK (GD (GA e) (I.ok.cab x c hfn hc)))).trans e1⟩
  ·by_cases hj:j=i
   ·subst hj;rw [hi] at e1;cases e1;rw [GC hiσ] at e2;cases e2;exact ⟨u,r,.inr ⟨.inl hk,c,hc,hc'⟩⟩
   ·rw [Gk (Ne.symm hj)] at e2;obtain ⟨u',r',q⟩:=hl j y v' e1 e2 e3;refine ⟨u',r',?_⟩;rcases q with q | ⟨k,c',e,z'⟩
    ·exact .inl q
    ·refine .inr ⟨k,c',e,z'.sameBut hs ?_⟩;rintro rfl;exact hj (mf hN e1 (I.ok.inj _ _ _ e hc▸hi))
  ·by_cases hcc:c'=c
   ·subst hcc;exact ⟨_,hc'⟩
   ·obtain ⟨w2,z2⟩:=I.cell y c' e;exact ⟨w2,z2.sameBut hs hcc⟩
  ·obtain ⟨e,n,ne,nf,d⟩:=I.pin p hp;refine ⟨(hs.2 p.1 ?_).trans e,n,ne,nf,d⟩;intro q;rw [q,hoc] at e;have q':oc=p.2:=Hr e;exact d w' (by rw [<- q'];exact hocd)
theorem lV {M:Model} {A:Around} {E:Value->Shared->Prop} {i:Nat} {x:Str} {v:V} {u:Value} {Q:Unit->Shared->Prop} (I:Inv X pins σ H s) (hN:X.N.Nodup) (hi:X.N[i]?=some x) (hx:Loc X.env.scope x) (r:RelV v u)
  (h:∀ s',Inv X pins (σ.set i (some v)) H s'->Q () s') (hf:X.fn x=true\/X.env.scope.names.lookup x=some .local:=by first | exact .inl rfl | exact .inr rfl | assumption):wpAny M A (storeName X.env x u) Q E s :=
 n3 I hN hi hx r (fun s' I' _=>h s' I') hf
end
abbrev XK:=Value->Option Addr->Hp->Prop
abbrev St:=List (Option V)
abbrev VK:=V->Hp->Prop
abbrev TE:=St->Hp->VK->Prop
abbrev TT:=St->Hp->(Bool->Hp->Prop)->Prop
abbrev TA:=St->Hp->(List V->Hp->Prop)->Prop
structure Ends where
 nx:St->Hp->Prop
 rt:VK
 bk:St->Hp->Prop:=fun _ _=>False
 ct:St->Hp->Prop:=fun _ _=>False
abbrev TS:=Ends->St->Hp->Prop
def EP (X:Cx) (pins:List (Addr×Obj)) (σ:St) (Q:VK) (u:Value) (s':Shared):Prop:=∃ v H',Inv X pins σ H' s'/\RelV v u/\Q v H'
def TP (X:Cx) (pins:List (Addr×Obj)) (σ:St) (Q:Bool->Hp->Prop) (b:Bool) (s':Shared):Prop:=∃ H',Inv X pins σ H' s'/\Q b H'
def AP (X:Cx) (pins:List (Addr×Obj)) (σ:St) (Q:List V->Hp->Prop) (us:List Value) (s':Shared):Prop:=∃ vs H',Inv X pins σ H' s'/\Vals vs us/\Q vs H'
def SP (X:Cx) (pins:List (Addr×Obj)) (D:Ends) (f:Flow) (s':Shared):Prop :=
 match f with
 | .next=>∃ σ' H',Inv X pins σ' H' s'/\D.nx σ' H'
 | .brk=>∃ σ' H',Inv X pins σ' H' s'/\D.bk σ' H'
 | .cont=>∃ σ' H',Inv X pins σ' H' s'/\D.ct σ' H'
 | .ret u=>∃ v σ' H',Inv X pins σ' H' s'/\RelV v u/\D.rt v H'
def PE (X:Cx) (e:Expr) (t:TE):Prop :=
 ∀ (pins:List (Addr×Obj)) (s:Shared) (σ:St) (H:Hp) (Q:VK),Inv X pins σ H s->t σ H Q->wpAny (model X.prog X.w) X.A (eval e X.env) (EP X pins σ Q) X.xe s
def PT (X:Cx) (e:Expr) (t:TT):Prop :=
 ∀ (pins:List (Addr×Obj)) (s:Shared) (σ:St) (H:Hp) (Q:Bool->Hp->Prop),Inv X pins σ H s->t σ H Q->wpAny (model X.prog X.w) X.A (isTrue e X.env (eval e X.env)) (TP X pins σ Q) X.xe s
def PW (X:Cx) (e:Expr) (t:TT):Prop :=
 ∀ (whole:Sem Value) (pins:List (Addr×Obj)) (s:Shared) (σ:St) (H:Hp) (Q:Bool->Hp->Prop),Inv X pins σ H s->t σ H Q->wpAny (model X.prog X.w) X.A (isTrue e X.env whole) (TP X pins σ Q) X.xe s
theorem PW.pt {X:Cx} {e:Expr} {t:TT} (h:PW X e t):PT X e t:=h _
def PA (X:Cx) (es:List Expr) (t:TA):Prop :=
 ∀ (pos:Pos) (pins:List (Addr×Obj)) (s:Shared) (σ:St) (H:Hp) (Q:List V->Hp->Prop),Inv X pins σ H s->t σ H Q->wpAny (model X.prog X.w) X.A (spliced (backTo pos (starEach es X.env))) (AP X pins σ Q) X.xe s
def PS (X:Cx) (st:Stmt) (t:TS):Prop :=
 ∀ (pins:List (Addr×Obj)) (s:Shared) (σ:St) (H:Hp) (D:Ends),Inv X pins σ H s->t D σ H->wpAny (model X.prog X.w) X.A (exec st X.env) (SP X pins D) X.xe s
def PSs (X:Cx) (st:List Stmt) (t:TS):Prop :=
 ∀ (pins:List (Addr×Obj)) (s:Shared) (σ:St) (H:Hp) (D:Ends),Inv X pins σ H s->t D σ H->wpAny (model X.prog X.w) X.A (execs st X.env) (SP X pins D) X.xe s
theorem thn {α:Type} {t:Sem α} {Q Q':α->Shared->Prop} {M:Model} {A:Around} {E:Value->Shared->Prop} {s:Shared} (h:wpAny M A t Q E s) (hQ:∀ a s,Q a s->Q' a s):wpAny M A t Q' E s:=Hg h hQ fun _ _ x=>x
end L2
namespace L2
open PySem PySem.Spec PyProof.Rows
section
variable {X:Cx}
theorem bin {a b:Expr} {ta tb:TE} (ha:PE X a ta) (hb:PE X b tb) {pins:List (Addr×Obj)} {s:Shared} {σ:St} {H:Hp} {R:V->V->Hp->Prop} (I:Inv X pins σ H s) (h:ta σ H fun x H1=>tb σ H1 fun y H2=>R x y H2)
  {α:Type} {Q:α->Shared->Prop} {f:Value->Value->Sem α}
  (hf:∀ v u s2 x y H2,Inv X pins σ H2 s2->RelV x v->RelV y u->R x y H2->wpAny (model X.prog X.w) X.A (f v u) Q X.xe s2) :
  wpAny (model X.prog X.w) X.A (eval a X.env) (fun v s₁=>wpAny (model X.prog X.w) X.A (eval b X.env) (fun u s₂=>wpAny (model X.prog X.w) X.A (f v u) Q X.xe s₂) X.xe s₁) X.xe s:=by
 refine thn (ha pins s σ H _ I h) fun v s1 ⟨x,H1,I1,r1,q1⟩=>?_;refine thn (hb pins s1 σ H1 _ I1 q1) fun u s2 ⟨y,H2,I2,r2,q2⟩=>?_;exact hf v u s2 x y H2 I2 r1 r2 q2
def qZ (i:Nat):TE:=fun σ H Q=>∃ v,σ[i]?=some (some v)/\Q v H
def tC (v:V):TE:=fun _ H Q=>Q v H
theorem uj {i:Nat} {x:Str} {pos:Pos} (hN:X.N[i]?=some x) (hv:Vis X.env.scope x) (hd:(x==("__debug__" : Str))=false:=by decide) (hcd:(x==("__classdict__" : Str))=false:=by decide):PE X (.Name x pos) (qZ i):=by
 intro pins s σ H Q I h;obtain ⟨v,e,h⟩:=h;obtain ⟨m,hn,hl⟩:=I.loc;obtain ⟨u,r,l⟩:=hl i x v hN e hv;have fin:EP X pins σ Q u s:=⟨v,H,I,r,h⟩;rcases l with ⟨hk,hm⟩ | ⟨hk,c,hc,hcell⟩
 ·exact wpAny_Name (wpAny_loadName_local I.ok.kind hk hn hm fin) hd
 ·rcases hk with hk | hk
  ·exact wpAny_Name (wpAny_loadName_cell I.ok.kind hk hc hcell fin) hd
  ·exact wpAny_Name (wpAny_loadName_free I.ok.kind hk hc hcell fin hcd) hd
theorem zW {i j pos}:PE X (.Constant (.int i) j pos) (tC (.int i)):=fun _ _ _ H _ I h=>wpAny_Constant_int ⟨.int i,H,I.tok _,⟨_,rfl⟩,h⟩
theorem DB {b j pos}:PE X (.Constant (.bool b) j pos) (tC (.bl b)):=fun _ _ _ H _ I h=>Constant_bool ⟨.bl b,H,I,rfl,h⟩
theorem y1 {j pos}:PE X (.Constant .none j pos) (tC .non):=fun _ _ _ H _ I h=>Constant_none ⟨.non,H,I,rfl,h⟩
theorem xN {x j pos}:PE X (.Constant (.str x) j pos) (tC (.str x)):=fun _ _ _ H _ I h=>Calls.Constant_str ⟨.str x,H,I.tok _,⟨_,rfl⟩,h⟩
def Gl (X:Cx) (x:Str):Prop:=X.env.kindOf x=some .globalImplicit
theorem oN {E:Value->Shared->Prop} {pins:List (Addr×Obj)} {s:Shared} {σ:St} {H:Hp} {x:Str} {u:Value} {pos:Pos} {Q:Value->Shared->Prop} (I:Inv X pins σ H s) (hg:Gl X x) (hm:X.mg x=some u) (h:Q u s)
  (hd:(x==("__debug__" : Str))=false:=by decide):wpAny (model X.prog X.w) X.A (eval (.Name x pos) X.env) Q E s :=
 Calls.Name_function_global I.ok.kind hg (Calls.loadGlobal_global (by rw [I.ok.glob];exact I.mod.glob.keeps I.bk) hm h) hd
theorem qw {E:Value->Shared->Prop} {pins:List (Addr×Obj)} {s:Shared} {σ:St} {H:Hp} {x:Str} {u:Value} {pos:Pos} {Q:Value->Shared->Prop} (I:Inv X pins σ H s) (hg:Gl X x) (hm:X.mg x=none) (hv:bootBuiltins x=some u) (h:Q u s)
  (hn:x ≠ "__name__" := by decide) (hd:(x==("__debug__" : Str))=false:=by decide):wpAny (model X.prog X.w) X.A (eval (.Name x pos) X.env) Q E s:=by
 obtain ⟨mb,h1,h2⟩:=I.mod.blt;exact Calls.Name_function_global I.ok.kind hg (Calls.loadGlobal_builtin (by rw [I.ok.glob];exact I.mod.glob.keeps I.bk) hm (by rw [I.ok.blt];exact h1.keeps I.bk) ((h2 x hn).trans hv) h) hd
theorem wm {x:Str} {v:V} {u:Value} {pos:Pos} (hg:Gl X x) (hm:X.mg x=some u) (r:RelV v u) (hd:(x==("__debug__" : Str))=false:=by decide):PE X (.Name x pos) (tC v) :=
 fun _ _ _ H _ I h=>oN I hg hm ⟨v,H,I,r,h⟩ hd
variable {a b:Expr} {ta tb:TE} {pos:Pos}
def tB (t:TE):TT:=fun σ H Q=>t σ H fun x H1=>∃ c,x=.bl c/\Q c H1
variable {tA tB':TT} {rest:List Expr}
def Ed (t u:TT):TT:=fun σ H Q=>t σ H fun c H1=>if c=true then u σ H1 Q else Q false H1
def tOr (t u:TT):TT:=fun σ H Q=>t σ H fun c H1=>if c=true then Q true H1 else u σ H1 Q
def FE (t:TT):TT:=fun σ H Q=>t σ H fun c H1=>Q (!c) H1
theorem pw_and1 (ha:PT X a tA):PW X (.BoolOp .And [a] pos) tA:=by
 intro wh pins s σ H Q I h;refine isTrue_and (thn (ha pins s σ H Q I h) fun c s1 e=>?_);cases c with
 | true=>exact isTrue_and_nil e
 | false=>exact e
theorem pw_or1 (ha:PT X a tA):PW X (.BoolOp .Or [a] pos) tA:=by
 intro wh pins s σ H Q I h;refine isTrue_or (thn (ha pins s σ H Q I h) fun c s1 e=>?_);cases c with
 | false=>exact isTrue_or_nil e
 | true=>exact e
theorem pw_and (ha:PT X a tA) (hb:PW X (.BoolOp .And (b :: rest) pos) tB'):PW X (.BoolOp .And (a :: b :: rest) pos) (Ed tA tB'):=by
 intro wh pins s σ H Q I h;refine isTrue_and (thn (ha pins s σ H _ I h) fun c s1 ⟨H1,I1,q1⟩=>?_);cases c with
 | true=>exact hb wh pins s1 σ H1 Q I1 q1
 | false=>exact ⟨H1,I1,q1⟩
theorem pw_or (ha:PT X a tA) (hb:PW X (.BoolOp .Or (b :: rest) pos) tB'):PW X (.BoolOp .Or (a :: b :: rest) pos) (tOr tA tB'):=by
 intro wh pins s σ H Q I h;refine isTrue_or (thn (ha pins s σ H _ I h) fun c s1 ⟨H1,I1,q1⟩=>?_);cases c with
 | true=>exact ⟨H1,I1,q1⟩
 | false=>exact hb wh pins s1 σ H1 Q I1 q1
def vT (ta tb:TE):TE:=fun σ H Q=>ta σ H fun x H1=>∃ c,x=.bl c/\if c=true then tb σ H1 Q else Q (.bl false) H1
def Fh (ta tb:TE):TE:=fun σ H Q=>ta σ H fun x H1=>∃ c,x=.bl c/\if c=true then Q (.bl true) H1 else tb σ H1 Q
def B0 (ta:TE):TE:=fun σ H Q=>ta σ H fun x H1=>∃ c,x=.bl c/\Q (.bl (!c)) H1
theorem xO {op} {t:TE} (h:PE X a t):PE X (.BoolOp op [a] pos) t:=fun pins s σ H Q I hw=>BoolOp_one (h pins s σ H Q I hw)
theorem zd (ha:PE X a ta) (hb:PE X (.BoolOp .And (b :: rest) pos) tb):PE X (.BoolOp .And (a :: b :: rest) pos) (vT ta tb):=by
 intro pins s σ H Q I h;refine BoolOp_and (thn (ha pins s σ H _ I h) fun v s1 ⟨x,H1,I1,r1,q1⟩=>?_);obtain ⟨c,rfl,q1⟩:=q1;cases r1;refine wpAny_truthy_bool ?_;cases c with
 | true=>exact hb pins s1 σ H1 Q I1 q1
 | false=>exact ⟨.bl false,H1,I1,rfl,q1⟩
def tIf (t:TT) (ta tb:TE):TE:=fun σ H Q=>t σ H fun c H1=>if c=true then ta σ H1 Q else tb σ H1 Q
end
end L2
namespace L2
open PySem PySem.Spec PyProof.Rows
def SqL (K:Fg) (H:Hp) (a:Addr) (xs:List V):Prop :=
 Rd H a (.lst xs) \/
  ∃ (o:Obj) (its:Array Value) (n:Nat),K.lookup a=some o/\o.cls=.type "list" /\ o.dict=none/\o.data=.seq its n/\its.size<=sizeLine/\Vals xs its.toList
def SqT (K:Fg) (H:Hp) (a:Addr) (xs:List V):Prop :=
 Rd H a (.tup xs) \/
  ∃ (o:Obj) (its:Array Value) (n:Nat),K.lookup a=some o/\o.cls=.type "tuple" /\ o.data=.seq its n/\its.size<=sizeLine/\Vals xs its.toList
noncomputable def Fx:Value->Option V
 | .none=>some .non
 | .bool b=>some (.bl b)
 | .int i _=>some (.int i)
 | .str x _=>some (.str x)
 | .bytes b _=>some (.byt b)
 | .float b _=>some (.flt b)
 | .ref a=>some (.ref a)
 | .type n=>some (.ty n)
 | _=>none
theorem RelV.abs {x:V} {u:Value} (r:RelV x u):Fx u=some x:=by
 cases x with
 | non=>cases r;rfl
 | bl _=>cases r;rfl
 | int _=>obtain ⟨t,rfl⟩:=r;rfl
 | str _=>obtain ⟨t,rfl⟩:=r;rfl
 | byt _=>obtain ⟨t,rfl⟩:=r;rfl
 | flt _=>obtain ⟨t,rfl⟩:=r;rfl
 | ref _=>cases r;rfl
 | ty _=>cases r;rfl
theorem RelV.inj {x y:V} {u:Value} (r:RelV x u) (q:RelV y u):x=y:=Hr (r.abs.symm.trans q.abs)
theorem Vals.inj:∀ {xs ys:List V} {us:List Value},Vals xs us->Vals ys us->xs=ys
 | _,_,_,.nil,.nil=>rfl
 | _,_,_,.cons r t,.cons r' t'=>by rw [r.inj r',Vals.inj t t']
section
variable {X:Cx} {pins:List (Addr×Obj)} {σ:St} {H:Hp} {s:Shared} {a:Addr} {xs ys:List V}
theorem SqT.of {K:Fg} (h:H a=some (.tup xs)):SqT K H a xs:=.inl (.inl h)
theorem Inv.list (I:Inv X pins σ H s) (h:SqL X.K H a xs):∃ its:List Value,Vals xs its/\PlainL s.heap a its.toArray/\xs.length<=sizeLine:=by
 rcases h with h | ⟨o,its,n,hk,hc,hd,hs,hz,r⟩
 ·obtain ⟨z,its,n,r,e⟩:=h.ok I.hok;exact ⟨its,r,⟨_,n,e,rfl,rfl,rfl⟩,z⟩
 ·refine ⟨its.toList,r,⟨o,n,I.kIn a o hk,hc,hd,by simpa using hs⟩,?_⟩;have e:=r.length;simp only [GN] at e;omega
theorem Inv.tuple (I:Inv X pins σ H s) (h:SqT X.K H a xs):∃ its:List Value,Vals xs its/\IsTup s.heap a its.toArray/\xs.length<=sizeLine:=by
 rcases h with h | ⟨o,its,n,hk,hc,hs,hz,r⟩
 ·obtain ⟨z,its,r,p⟩:=h.ok I.hok;exact ⟨its,r,p,z⟩
 ·refine ⟨its.toList,r,⟨o,I.kIn a o hk,hc,n,by simpa using hs⟩,?_⟩;have e:=r.length;simp only [GN] at e;omega
theorem Inv.rX (I:Inv X pins σ H s) (h:SqL X.K H a xs) (h':SqL X.K H a ys):xs=ys:=by
 obtain ⟨its,r,⟨o,n,e,_,_,d⟩,_⟩:=I.list h;obtain ⟨its',r',⟨o',n',e',_,_,d'⟩,_⟩:=I.list h';rw [e] at e';cases e';rw [d] at d';injection d' with d1 _;have:its=its':=by simpa using congrArg Array.toList d1
 subst this;exact r.inj r'
theorem Inv.ql (I:Inv X pins σ H s) (h:SqT X.K H a xs) (h':SqT X.K H a ys):xs=ys:=by
 obtain ⟨its,r,⟨o,e,_,n,d⟩,_⟩:=I.tuple h;obtain ⟨its',r',⟨o',e',_,n',d'⟩,_⟩:=I.tuple h';rw [e] at e';cases e';rw [d] at d';injection d' with d1 _;have:its=its':=by simpa using congrArg Array.toList d1
 subst this;exact r.inj r'
end
abbrev Cx.qU (X:Cx) (E:Value->Shared->Prop):Cx:={ X with xe:=E }
abbrev Cx.nox (X:Cx):Cx:=X.qU fun _ _=>False
theorem Cx.Ok.qU {X:Cx} (ok:X.Ok) (E:Value->Shared->Prop):(X.qU E).Ok :=
 ⟨ok.mod,ok.kind,ok.glob,ok.blt,ok.above,ok.inj,ok.has,ok.cab,ok.hd,ok.frames,ok.stk,ok.exf,ok.bs,ok.bsz,ok.xq,ok.Bd,ok.pe,ok.frf⟩
theorem Cx.Ok.fB {X:Cx} {E:Value->Shared->Prop} (ok:(X.qU E).Ok):X.Ok :=
 ⟨ok.mod,ok.kind,ok.glob,ok.blt,ok.above,ok.inj,ok.has,ok.cab,ok.hd,ok.frames,ok.stk,ok.exf,ok.bs,ok.bsz,ok.xq,ok.Bd,ok.pe,ok.frf⟩
section
variable {X:Cx} {pins:List (Addr×Obj)} {σ:St} {H:Hp} {s:Shared} {E:Value->Shared->Prop}
theorem Inv.qU (I:Inv X pins σ H s) (E:Value->Shared->Prop):Inv (X.qU E) pins σ H s:=⟨I.ok.qU E,I.os,I.bare,I.base,I.loc,I.cell,I.free,I.fD,I.pin,I.hok,I.len⟩
theorem Inv.fB (I:Inv (X.qU E) pins σ H s):Inv X pins σ H s:=⟨I.ok.fB,I.os,I.bare,I.base,I.loc,I.cell,I.free,I.fD,I.pin,I.hok,I.len⟩
theorem SP.fB {D:Ends} {f:Flow} {s':Shared} (h:SP (X.qU E) pins D f s'):SP X pins D f s':=by
 cases f with
 | next=>obtain ⟨σ',H',I,q⟩:=h;exact ⟨σ',H',I.fB,q⟩
 | brk=>obtain ⟨σ',H',I,q⟩:=h;exact ⟨σ',H',I.fB,q⟩
 | cont=>obtain ⟨σ',H',I,q⟩:=h;exact ⟨σ',H',I.fB,q⟩
 | ret u=>obtain ⟨v,σ',H',I,r,q⟩:=h;exact ⟨v,σ',H',I.fB,r,q⟩
theorem PSs.nox {st:List Stmt} {t:TS} (h:PSs X.nox st t):PSs X st t:=fun pins s σ H D I hw =>
 Hg (h pins s σ H D (I.qU _) hw) (fun _ _ q=>q.fB) fun _ _ z=>False.elim z
end
section
variable {X:Cx} {st:Stmt} {rest:List Stmt} {t u:TS} {e:Expr} {te:TE} {pos:Pos}
def we:TS:=fun D σ H=>D.nx σ H
def Ef (t u:TS):TS:=fun D σ H=>t { D with nx:=u D } σ H
theorem vi:PSs X [] we:=fun _ _ σ H _ I h=>wpAny_execs_nil ⟨σ,H,I,h⟩
theorem tS (h1:PS X st t) (h2:PSs X rest u):PSs X (st :: rest) (Ef t u):=by
 intro pins s σ H D I h;refine wpAny_execs_cons (thn (h1 pins s σ H { D with nx:=u D } I h) fun f s1 q=>?_);cases f with
 | next =>
  obtain ⟨σ',H',I',q⟩:=q;exact h2 pins s1 σ' H' D I' q
 | ret v=>exact q
 | brk=>exact q
 | cont=>exact q
theorem wg (h1:PS X st t):PSs X [st] t:=by
 intro pins s σ H D I h;refine wpAny_execs_cons (thn (h1 pins s σ H D I h) fun f s1 q=>?_);cases f with
 | next=>exact wpAny_execs_nil q
 | ret v=>exact q
 | brk=>exact q
 | cont=>exact q
def zu:TS:=fun D σ H=>D.bk σ H
def B6:TS:=fun D σ H=>D.ct σ H
theorem Inv.quiet {pins:List (Addr×Obj)} {σ:St} {H:Hp} {s:Shared} (I:Inv X pins σ H s):interactive X.env=false:=by simp [interactive,I.ok.kind]
def xf (te:TE):TS:=fun D σ H=>te σ H fun _ H1=>D.nx σ H1
theorem vO (he:PE X e te) (hs:swapsWith e none pos.line X.env=pure false:=by rfl):PS X (.Expr e pos) (xf te):=by
 intro pins s σ H D I h;exact wpAny_Expr_any (thn (he pins s σ H _ I h) fun v s1 ⟨x,H1,I1,r1,q1⟩=>⟨σ,H1,I1,q1⟩) I.quiet hs
def DV (te:TE):TS:=fun D σ H=>te σ H D.rt
theorem AO (he:PE X e te):PS X (.Return (some e) pos) (DV te):=by
 intro pins s σ H D I h;exact wpAny_Return_some (thn (he pins s σ H _ I h) fun v s1 ⟨x,H1,I1,r1,q1⟩=>⟨x,σ,H1,I1,r1,q1⟩)
def Cm:TS:=fun D _ H=>D.rt .non H
def CA (c:TT) (t u:TS):TS:=fun D σ H=>c σ H fun b H1=>if b=true then t D σ H1 else u D σ H1
theorem DK {c:Expr} {a b:List Stmt} {tc:TT} (hc:PT X c tc) (ha:PSs X a t) (hb:PSs X b u):PS X (.If c a b pos) (CA tc t u):=by
 intro pins s σ H D I h;refine wpAny_If (thn (hc pins s σ H _ I h) fun d s1 ⟨H1,I1,q1⟩=>?_);cases d with
 | true=>exact ha pins s1 σ H1 D I1 q1
 | false=>exact hb pins s1 σ H1 D I1 q1
def z8:TS:=fun _ _ _=>False
end
abbrev TG:=V->St->Hp->(St->Hp->Prop)->Prop
abbrev TGs:=List V->St->Hp->(St->Hp->Prop)->Prop
def PG (X:Cx) (target:Expr) (t:TG):Prop :=
 ∀ (pins:List (Addr×Obj)) (s:Shared) (σ:St) (H:Hp) (v:V) (u:Value) (Q:St->Hp->Prop),Inv X pins σ H s->RelV v u->t v σ H Q ->
  wpAny (model X.prog X.w) X.A (assign target X.env u) (fun _ s'=>∃ σ' H',Inv X pins σ' H' s'/\Q σ' H') X.xe s
def PGs (X:Cx) (ts:List Expr) (t:TGs):Prop :=
 ∀ (pins:List (Addr×Obj)) (s:Shared) (σ:St) (H:Hp) (vs:List V) (us:List Value) (Q:St->Hp->Prop),Inv X pins σ H s->Vals vs us->t vs σ H Q ->
  wpAny (model X.prog X.w) X.A (assignInOrder ((assignEach ts X.env).map (·.2)) us) (fun _ s'=>∃ σ' H',Inv X pins σ' H' s'/\Q σ' H') X.xe s
abbrev Bu:=V->V->V->Hp->(Hp->Prop)->Prop
def DC (X:Cx) (t:Bu):Prop :=
 ∀ (pins:List (Addr×Obj)) (s:Shared) (σ:St) (H:Hp) (o i v:V) (ov iv u:Value) (Q:Hp->Prop),Inv X pins σ H s->RelV o ov->RelV i iv->RelV v u->t o i v H Q ->
  wpAny (model X.prog X.w) X.A (setItem ov iv u) (fun _ s'=>∃ H',Inv X pins σ H' s'/\Q H') X.xe s
section
variable {X:Cx} {pos:Pos}
def cL (i:Nat):TG:=fun v σ H Q=>Q (σ.set i (some v)) H
theorem gf {i:Nat} {x:Str} (hN:X.N.Nodup) (hi:X.N[i]?=some x) (hx:Loc X.env.scope x) (hf:X.fn x=true\/X.env.scope.names.lookup x=some .local:=by first | exact .inl rfl | exact .inr rfl | assumption):PG X (.Name x pos) (cL i):=by
 intro pins s σ H v u Q I r h;exact wpAny_assign_Name (lV I hN hi hx r (fun s' I'=>⟨_,H,I',h⟩) hf)
def Bp:TGs:=fun vs σ H Q=>vs=[]/\Q σ H
def tw (t:TG) (u:TGs):TGs:=fun vs σ H Q=>∃ v r,vs=v :: r/\t v σ H fun σ' H'=>u r σ' H' Q
theorem pq:PGs X [] Bp:=by
 intro pins s σ H vs us Q I r h;obtain ⟨e,h⟩:=h;subst e;cases r;exact assignInOrder_nil ⟨σ,H,I,h⟩
theorem lU {e:Expr} {es:List Expr} {t:TG} {u:TGs} (h1:PG X e t) (h2:PGs X es u)
  (hs:(assignEach (e :: es) X.env).map (·.2)=assign e X.env :: (assignEach es X.env).map (·.2):=by rfl):PGs X (e :: es) (tw t u):=by
 intro pins s σ H vs us Q I r h;obtain ⟨v,vr,e1,h⟩:=h;subst e1;cases r with
 | cons r rr =>
  rw [hs];refine assignInOrder_cons (thn (h1 pins s σ H _ _ _ I r h) fun _ s1 ⟨σ1,H1,I1,q1⟩=>?_);exact h2 pins s1 σ1 H1 _ _ Q I1 rr q1
def Bi (K:Fg) (n:Nat) (t:TGs):TG:=fun v σ H Q=>∃ a xs,v=.ref a/\SqT K H a xs/\xs.length=n/\t xs σ H Q
theorem tZ {es:List Expr} {k:Nat} {t:TGs} {n:Nat} (hc:X.calm=true) (h:PGs X es t)
  (hn:(assignEach es X.env).length=n:=by rfl) (hst:(assignEach es X.env).findIdx? (·.1)=none:=by rfl):PG X (.Tuple es k pos) (Bi X.K n t):=by
 intro pins s σ H v u Q I r hw;obtain ⟨a,xs,e1,hq,hl,hw⟩:=hw;subst e1;cases r;obtain ⟨its,rv,ht,hz⟩:=I.tuple hq;refine assign_Tuple_tuple (I.ok.hd hc) ht (by simp [hn,<-hl,rv.length]) hst fun h' hx=>?_;have I1:Inv X pins σ H { s with heap:=h' }:=I.kept (t':=s.toks) fun b o e=>hx b o (GK (GA e)) e;exact h pins _ σ H xs _ Q I1 (by simpa using rv) hw
def EX (to ti:TE) (t:Bu):TG:=fun v σ H Q=>to σ H fun o H1=>ti σ H1 fun i H2=>t o i v H2 fun H3=>Q σ H3
theorem zC {o i:Expr} {to ti:TE} {t:Bu} (ho:PE X o to) (hi:PE X i ti) (hs:DC X t)
  (ha:∀ v,assign (.Subscript o i pos) X.env v=(do
   let ov<-holding [v] (eval o X.env)
   let iv<-holding [v,ov] (eval i X.env)
   standAt pos
   holding [v,ov,iv] (setItem ov iv v)
   release [v,ov,iv] []):=by intro _;rfl):PG X (.Subscript o i pos) (EX to ti t):=by
 intro pins s σ H v u Q I r h;rw [ha];refine Ge (Hv (thn (ho pins s σ H _ I h) fun ov s1 ⟨x,H1,I1,r1,q1⟩=>?_));refine Ge (Hv (thn (hi pins s1 σ H1 _ I1 q1) fun iv s2 ⟨y,H2,I2,r2,q2⟩=>?_));refine Ge (wpAny_standAt (Ge (Hv (thn (hs pins s2 σ H2 x y v ov iv u _ I2 r1 r2 r q2) fun _ s3 ⟨H3,I3,q3⟩=>?_))));exact wpAny_release ⟨σ,H3,I3,q3⟩
def pP (te:TE) (g:TG):TS:=fun D σ H=>te σ H fun x H1=>g x σ H1 D.nx
theorem zA {tg e:Expr} {te:TE} {g:TG} (he:PE X e te) (hg:PG X tg g) (hs:swapsWithSole [tg] e pos.line X.env=pure false:=by rfl) (hw:swappedStores [tg] e X.env=pure none:=by rfl)
  (h1:(assignEach [tg] X.env).map (·.2)=[assign tg X.env]:=by rfl):PS X (.Assign [tg] e pos) (pP te g):=by
 intro pins s σ H D I h;refine wpAny_Assign_stores (thn (he pins s σ H _ I h) fun v s1 ⟨x,H1,I1,r1,q1⟩=>?_) hs hw;rw [h1];exact thn (hg pins s1 σ H1 x v _ I1 r1 q1) fun _ s2 q=>q
theorem xR {i:Nat} {x:Str} {e:Expr} {te:TE} {pos':Pos} (hN:X.N.Nodup) (hi:X.N[i]?=some x) (hx:Loc X.env.scope x) (he:PE X e te) (hs:swapsWith e (some (.Name x pos')) pos.line X.env=pure false:=by rfl) (hf:X.fn x=true\/X.env.scope.names.lookup x=some .local:=by first | exact .inl rfl | exact .inr rfl | assumption) :
  PS X (.Assign [.Name x pos'] e pos) (pP te (cL i)):=by
 intro pins s σ H D I h;refine wpAny_Assign_Name (thn (he pins s σ H _ I h) fun v s1 ⟨y,H1,I1,r1,q1⟩=>?_) hs;exact lV I1 hN hi hx r1 (fun s2 I2=>⟨_,H1,I2,q1⟩) hf
end
section
variable {X:Cx} {pos:Pos}
def zY (c:TT) (tb:TS):TS:=fun D σ H=>∃ W:Nat->St->Hp->Prop,(∃ m,W m σ H)/\∀ m σ H,W m σ H ->
 c σ H fun b H1=>if b=true then ∃ N:St->Hp->Prop,(∀ σ' H',N σ' H'->∃ m',m' < m/\W m' σ' H')/\tb { D with nx:=N,ct:=N,bk:=D.nx } σ H1 else D.nx σ H1
end
structure It where
 go:Nat->Hp->Prop
 yld:Nat->Hp->V->Hp->Prop
 stop:Nat->Hp->Prop
def qY (X:Cx) (pins:List (Addr×Obj)) (H:Hp) (b:Addr):Prop :=
 H b=none/\b≠X.env.locals/\b ∉ X.fs/\(b∈X.ex\/X.s₀.heap.objs.size<=b)/\(∀ x c,X.env.cells.lookup x=some c->c≠b)/\∀ p∈X.pn++pins,p.1≠b
theorem Inv.CK {X:Cx} {pins:List (Addr×Obj)} {σ:St} {H H':Hp} {s:Shared} {b:Addr} (I:Inv X pins σ H s) (hb:s.heap.objs.size<=b) (hn:H' b=none):qY X pins H' b:=by
 refine ⟨hn,IF (GD I.lt hb),I.Br hb,.inr (GU I.sz hb),fun x c e z=>?_,fun p hp z=>?_⟩
 ·obtain ⟨v,q⟩:=I.cell x c e;exact absurd (GD q.lt (by rw [z];exact hb)) (Hd _)
 ·exact absurd (GD (GA (I.pin p hp).1) (by rw [z];exact hb)) (Hd _)
structure Turn (P:Program) (w:World) (K:Fg) (tg:Expr) (J:It) (fp:List Addr) (it:Addr) (tn:Nat->Heap->Prop):Prop where
 mem:it∈fp
 obj:∀ i h,tn i h->∀ b∈fp,∃ o,h.get? b=some o/\∀ v,o.data≠.cell v
 keep:∀ i h h',tn i h->(∀ b∈fp,∀ o,h.get? b=some o->h'.get? b=some o)->tn i h'
 item:∀ (X:Cx),X.prog=P->X.w=w->X.K=K->X.calm=true->∀ (i:Nat) (pins:List (Addr×Obj)) (s:Shared) (σ:St) (H:Hp) (E:Value->Shared->Prop),Inv X pins σ H s->(∀ b∈fp,qY X pins H b)->tn i s.heap->J.go i H ->
  wpAny (model P w) X.A (pyNext (.ref it)) (fun r s1=>∃ u,r=some u /\
   wpAny (model P w) X.A (letOwnedTupleGo tg (.ref it) u) (fun _ s2=>∃ x H',Inv X pins σ H' s2/\RelV x u/\J.yld i H x H'/\tn (i+1) s2.heap/\∀ b∈fp,H' b=none) E s1) E s
 done:∀ (X:Cx),X.prog=P->X.w=w->X.K=K->X.calm=true->∀ (i:Nat) (pins:List (Addr×Obj)) (s:Shared) (σ:St) (H:Hp) (E:Value->Shared->Prop),Inv X pins σ H s->(∀ b∈fp,qY X pins H b)->tn i s.heap->J.stop i H ->
  wpAny (model P w) X.A (pyNext (.ref it)) (fun r s1=>r=none/\Inv X pins σ H s1) E s
 self:∀ (A:Around) (i:Nat) (s:Shared) (Q:Value->Shared->Prop) (E:Value->Shared->Prop),tn i s.heap->Q (.ref it) s->wpAny (model P w) A (pyIter (.ref it)) Q E s
abbrev TI:=St->Hp->(It->Hp->Prop)->Prop
def PIE (X:Cx) (pins:List (Addr×Obj)) (σ:St) (tg:Expr) (R:It->Hp->Prop) (itv:Value) (s2:Shared):Prop :=
 ∃ (it:Addr) (fp:List Addr) (tn:Nat->Heap->Prop) (J:It) (H':Hp),itv=.ref it/\Inv X pins σ H' s2/\Turn X.prog X.w X.K tg J fp it tn/\tn 0 s2.heap/\(∀ b∈fp,qY X pins H' b)/\R J H'
def PI (X:Cx) (tg iter:Expr) (wi:TI):Prop :=
 ∀ (pins:List (Addr×Obj)) (s:Shared) (σ:St) (H:Hp) (R:It->Hp->Prop),Inv X pins σ H s->wi σ H R ->
  wpAny (model X.prog X.w) X.A (eval iter X.env) (fun v s1=>wpAny (model X.prog X.w) X.A (pyIter v) (PIE X pins σ tg R) X.xe s1) X.xe s
theorem ve {M:Model} {A:Around} {E:Value->Shared->Prop} {s:Shared} {tg:Expr} {it:Addr} {u:Value} {o:Obj} {n:String} {vs:Array Value} {Q:Unit->Shared->Prop} (ho:s.heap.get? it=some o) (hc:o.cls=.type n) (hd:o.data=.fields vs)
    (hn:["enumerate", "zip", "dict_itemiterator", "dict_reverseitemiterator", "odict_iterator", "itertools.zip_longest", "itertools.pairwise"].contains n=false) (hQ:Q () s):wpAny M A (letOwnedTupleGo tg (.ref it) u) Q E s:=by
  unfold letOwnedTupleGo;cases tg <;> first
    | exact Gi hQ
    | (cases u <;> first
        | exact Gi hQ
        | (refine Ge (wpAny_load ho ?_)
           rw [hc,hd];show wpAny M A (if (["enumerate", "zip", "dict_itemiterator", "dict_reverseitemiterator", "odict_iterator", "itertools.zip_longest", "itertools.pairwise"].contains n&&vs[0]?==some (rawInt _))=true then _ else _) Q E s;rw [Gy (by intro h;rw [hn,Bool.false_and] at h;cases h)]
           exact Gi hQ))
def Itl (K:Fg) (a:Addr):It :=
 ⟨fun i H=>∃ xs x,SqL K H a xs/\xs[i]?=some x,fun i H x H'=>H'=H/\∀ xs,SqL K H a xs->xs[i]?=some x,fun i H=>∃ xs,SqL K H a xs/\xs.length<=i⟩
def Itt (K:Fg) (a:Addr):It :=
 ⟨fun i H=>∃ xs x,SqT K H a xs/\xs[i]?=some x,fun i H x H'=>H'=H/\∀ xs,SqT K H a xs->xs[i]?=some x,fun i H=>∃ xs,SqT K H a xs/\xs.length<=i⟩
def Itr (lo:Int) (n:Nat):It:=⟨fun i _=>i < n,fun i H x H'=>H'=H/\x=.int (lo+i),fun i _=>n<=i⟩
theorem qN {P:Program} {w:World} {K:Fg} {tg:Expr} (a it:Addr):Turn P w K tg (Itl K a) [it] it (fun i h=>h.IsListIter it a i) where
 mem:=by simp
 obj:=fun i h st b hb=>by
  have e:b=it:=by simpa using hb
  subst e;obtain ⟨o,e,c,d⟩:=st;exact ⟨o,e,fun v z=>by rw [d] at z;cases z⟩
 keep:=fun i h h' st k=>st.at fun o e=>k it (by simp) o e
 item:=by
  intro X hP hw hK hc i pins s σ H E I hf st hg;subst hP hw hK;obtain ⟨xs,x,hq,hx⟩:=hg;obtain ⟨its,rv,p,hz⟩:=I.list hq;obtain ⟨u,hu,ru⟩:=rv.get hx;obtain ⟨f0,f1,f2,f3,f4,f5⟩:=hf it (by simp);refine wpAny_pyNext_list_item st p.isList (x:=u) (by simpa using hu) fun h' st' sb=>?_;have I1:Inv X pins σ H { s with heap:=h' }:=I.turned (t':=s.toks) (fun b o hb e=>(sb.2 b hb).trans e) f0 f1 f3 f4 f5;obtain ⟨o,e,c,d⟩:=id st';exact ⟨u,rfl,ve (s:={ s with heap:=h' }) e c d (by decide) ⟨x,H,I1,ru,⟨rfl,fun ys hy=>by rw [I.rX hy hq];exact hx⟩,st',fun b hb=>(hf b hb).1⟩⟩
 done:=by
  intro X hP hw hK hc i pins s σ H E I hf st hg;subst hP hw hK;obtain ⟨xs,hq,hx⟩:=hg;obtain ⟨its,rv,p,hz⟩:=I.list hq;obtain ⟨f0,f1,f2,f3,f4,f5⟩:=hf it (by simp);have hl:=rv.length;exact wpAny_pyNext_list_end (I.ok.hd hc) st p.isList (by simp;omega) fun h' eb=>⟨rfl,I.turned (t':=s.toks) (fun b o hb e=>eb b o hb e) f0 f1 f3 f4 f5⟩
 self:=fun _ _ _ _ _ st h=>wpAny_pyIter_listiter st h
theorem ng {P:Program} {w:World} {K:Fg} {tg:Expr} (a it:Addr):Turn P w K tg (Itt K a) [it] it (fun i h=>h.IsTupleIter it a i) where
 mem:=by simp
 obj:=fun i h st b hb=>by
  have e:b=it:=by simpa using hb
  subst e;obtain ⟨o,e,c,d⟩:=st;exact ⟨o,e,fun v z=>by rw [d] at z;cases z⟩
 keep:=fun i h h' st k=>st.at fun o e=>k it (by simp) o e
 item:=by
  intro X hP hw hK hc i pins s σ H E I hf st hg;subst hP hw hK;obtain ⟨xs,x,hq,hx⟩:=hg;obtain ⟨its,rv,p,hz⟩:=I.tuple hq;obtain ⟨u,hu,ru⟩:=rv.get hx;obtain ⟨f0,f1,f2,f3,f4,f5⟩:=hf it (by simp);refine wpAny_pyNext_tuple_item st (show s.heap.IsTuple a its.toArray from p) (x:=u) (by simpa using hu) fun h' st' sb=>?_;have I1:Inv X pins σ H { s with heap:=h' }:=I.turned (t':=s.toks) (fun b o hb e=>(sb.2 b hb).trans e) f0 f1 f3 f4 f5;obtain ⟨o,e,c,d⟩:=id st';exact ⟨u,rfl,ve (s:={ s with heap:=h' }) e c d (by decide) ⟨x,H,I1,ru,⟨rfl,fun ys hy=>by rw [I.ql hy hq];exact hx⟩,st',fun b hb=>(hf b hb).1⟩⟩
 done:=by
  intro X hP hw hK hc i pins s σ H E I hf st hg;subst hP hw hK;obtain ⟨xs,hq,hx⟩:=hg;obtain ⟨its,rv,p,hz⟩:=I.tuple hq;obtain ⟨f0,f1,f2,f3,f4,f5⟩:=hf it (by simp);have hl:=rv.length;exact wpAny_pyNext_tuple_end (I.ok.hd hc) st (show s.heap.IsTuple a its.toArray from p) (by simp;omega) fun h' eb=>⟨rfl,I.turned (t':=s.toks) (fun b o hb e=>eb b o hb e) f0 f1 f3 f4 f5⟩
 self:=fun _ _ _ _ _ st h=>wpAny_pyIter_tupleiter st h
theorem nc {P:Program} {w:World} {K:Fg} {tg:Expr} (it:Addr) (lo:Int) (n:Nat):Turn P w K tg (Itr lo n) [it] it (fun i h=>IsRangeIter h it (lo+(i:Nat)*1) ((n:Int) - (i:Nat)) 1) where
 mem:=by simp
 obj:=fun i h st b hb=>by
  have e:b=it:=by simpa using hb
  subst e
  exact ⟨_,st,fun v z=>by
   have z':Data.fields _=Data.cell v:=z
   cases z'⟩
 keep:=fun i h h' st k=>k it (by simp) _ st
 item:=by
  intro X hP hw hK hc i pins s σ H E I hf st hg;subst hP hw hK;obtain ⟨f0,f1,f2,f3,f4,f5⟩:=hf it (by simp);have W:=Walks.range (prog:=X.prog) (w:=X.w) (I.ok.hd hc) it lo 1 n;refine W.item i s _ _ hg st fun v h' tk hv st' kk=>?_;obtain ⟨t,rfl⟩:=hv;have I1:Inv X pins σ H { s with heap:=h',toks:=tk }:=I.turned (fun b o hb e=>kk b o (by simpa using hb) e) f0 f1 f3 f4 f5;refine ⟨_,rfl,ve (s:={ s with heap:=h',toks:=tk }) (n := "range_iterator") st' rfl rfl (by decide) ⟨.int (lo+i),H,I1,⟨t,?_⟩,⟨rfl,rfl⟩,st',fun b hb=>(hf b hb).1⟩⟩;rw [Int.mul_one]
 done:=by
  intro X hP hw hK hc i pins s σ H E I hf st hg;subst hP hw hK;obtain ⟨f0,f1,f2,f3,f4,f5⟩:=hf it (by simp);exact wpAny_pyNext_range_end (I.ok.hd hc) st (by have:n<=i:=hg;omega) fun h' eb=>⟨rfl,I.turned (t':=s.toks) (fun b o hb e=>eb b o hb e) f0 f1 f3 f4 f5⟩
 self:=fun _ _ _ _ _ st h=>wpAny_pyIter_rangeiter st h
end L2
namespace L2
open PySem PySem.Spec PyProof.Rows
section
variable {X:Cx} {tg:Expr}
def rl (K:Fg) (tl:TE):TI:=fun σ H R=>tl σ H fun x H1=>∃ a,x=.ref a/\(∃ xs,SqL K H1 a xs)/\R (Itl K a) H1
def Bh (K:Fg) (tl:TE):TI:=fun σ H R=>tl σ H fun x H1=>∃ a,x=.ref a/\(∃ xs,SqT K H1 a xs)/\R (Itt K a) H1
theorem pI {l:Expr} {tl:TE} (hl:PE X l tl):PI X tg l (rl X.K tl):=by
 intro pins s σ H R I h;refine thn (hl pins s σ H _ I h) fun v s1 ⟨x,H1,I1,r1,q1⟩=>?_;obtain ⟨a,e,⟨xs,hq⟩,q⟩:=q1;subst e;cases r1;obtain ⟨its,rv,p,hz⟩:=I1.list hq;refine wpAny_pyIter_list p.isList ?_;refine ⟨s1.heap.objs.size,[s1.heap.objs.size],_,_,H1,rfl,I1.kept (t':=s1.toks) fun b o e=>Gq _ e,qN a _,⟨_,GR _ rfl,rfl,rfl⟩,fun b hb=>?_,q⟩;have e:b=s1.heap.objs.size:=by simpa using hb
 subst e;exact I1.CK (Gu _) (I1.hok.fresh (Gu _))
theorem uT {l:Expr} {tl:TE} (hl:PE X l tl):PI X tg l (Bh X.K tl):=by
 intro pins s σ H R I h;refine thn (hl pins s σ H _ I h) fun v s1 ⟨x,H1,I1,r1,q1⟩=>?_;obtain ⟨a,e,⟨xs,hq⟩,q⟩:=q1;subst e;cases r1;obtain ⟨its,rv,p,hz⟩:=I1.tuple hq;refine wpAny_pyIter_tuple (show s1.heap.IsTuple a its.toArray from p) ?_;refine ⟨s1.heap.objs.size,[s1.heap.objs.size],_,_,H1,rfl,I1.kept (t':=s1.toks) fun b o e=>Gq _ e,ng a _,⟨_,GR _ rfl,rfl,rfl⟩,fun b hb=>?_,q⟩;have e:b=s1.heap.objs.size:=by simpa using hb
 subst e;exact I1.CK (Gu _) (I1.hok.fresh (Gu _))
theorem tG {pins:List (Addr×Obj)} {σ:St} {H:Hp} {s:Shared} {R:It->Hp->Prop} {E:Value->Shared->Prop} {lo hi:Int} {t u v:Tok} {tk:Nat} (I:Inv X pins σ H s) (h1:-(2 ^ 62)<=lo) (h2:lo < 2 ^ 62) (h3:-(2 ^ 62)<=hi) (h4:hi < 2 ^ 62)
  (q:R (Itr lo (hi - lo).toNat) H):wpAny (model X.prog X.w) X.A (pyIter (.ref s.heap.objs.size)) (PIE X pins σ tg R) E { s with heap:=s.heap.push { cls:=.type "range", data:=.fields #[.int lo t,.int hi u,.int 1 v] },toks:=tk }:=by
 refine wpAny_pyIter_range (IsRange.new ..) (small_one h1 h2 h3 h4) ?_;have I1:Inv X pins σ H { s with heap:=s.heap.push { cls:=.type "range", data:=.fields #[.int lo t,.int hi u,.int 1 v] },toks:=tk }:=I.kept fun b o e=>Gq _ e
 refine ⟨(s.heap.push { cls:=.type "range", data:=.fields #[.int lo t,.int hi u,.int 1 v] }).objs.size,[(s.heap.push { cls:=.type "range", data:=.fields #[.int lo t,.int hi u,.int 1 v] }).objs.size],_,_,H,rfl,
  I1.kept (t':=tk) fun b o e=>Gq _ e,nc _ lo (hi - lo).toNat,?_,fun b hb=>?_,q⟩
 ·have e1:lo+((0:Nat):Int)*1=lo:=by simp
  have e2:(((hi - lo).toNat:Nat):Int) - ((0:Nat):Int)=Builtin.Range.rangeSize lo hi 1:=by rw [rangeSize_one];split <;> omega
  show IsRangeIter _ _ (lo+((0:Nat):Int)*1) ((((hi - lo).toNat:Nat):Int) - ((0:Nat):Int)) 1;rw [e1,e2];exact GR _ rfl
 ·have e:b=(s.heap.push { cls:=.type "range", data:=.fields #[.int lo t,.int hi u,.int 1 v] }).objs.size:=by simpa using hb
  subst e;exact I1.CK (Gu _) (I1.hok.fresh (Gu _))
def vP (ta:TA):TI:=fun σ H R=>ta σ H fun vs H1=>∃ j:Int,vs=[.int j]/\-(2 ^ 62)<=j/\j < 2 ^ 62/\R (Itr 0 j.toNat) H1
def B7 (ta:TA):TI:=fun σ H R=>ta σ H fun vs H1=>∃ i j:Int,vs=[.int i,.int j]/\(-(2 ^ 62)<=i/\i < 2 ^ 62/\-(2 ^ 62)<=j/\j < 2 ^ 62)/\R (Itr i (j - i).toNat) H1
theorem oZ {a:Expr} {ta:TA} {p pos:Pos} (hg:Gl X "range") (hm:X.mg "range" = none) (ha:PA X [a] ta) (hs:starEach [a] X.env=[(false,eval a X.env)]:=by rfl):PI X tg (.Call (.Name "range" p) [a] [] pos) (vP ta):=by
 intro pins s σ H R I h;refine Call_ (qw I hg hm boot_range (PyProof.Rows.callWith_type1 (thn (ha pos pins s σ H _ I h) fun us s1 ⟨vs,H1,I1,r1,q1⟩=>?_) hs rfl));obtain ⟨j,e,q1,q2,q⟩:=q1;subst e;cases r1 with
 | cons r rr =>
  cases rr;obtain ⟨t,rfl⟩:=r;exact call_range_1 (tG I1 (by omega) (by omega) q1 q2 (by simpa using q))
def zy (wi:TI) (g:TG) (tb:TS):TS:=fun D σ H=>wi σ H fun J H1=>∃ W:Nat->Nat->St->Hp->Prop,(∃ m,W 0 m σ H1)/\∀ i m σ H,W i m σ H ->
 (J.stop i H/\D.nx σ H)\/(J.go i H/\∃ N:St->Hp->Prop,(∀ σ' H',N σ' H'->∃ m',m' < m/\W (i+1) m' σ' H')/\∀ x H',J.yld i H x H'->g x σ H' fun σ2 H2=>tb { D with nx:=N,ct:=N,bk:=D.nx } σ2 H2)
noncomputable def iy (fp:List Addr) (h:Heap):List (Addr×Obj):=fp.filterMap fun b=>(h.get? b).map fun o=>(b,o)
theorem bz {fp:List Addr} {h:Heap} {b:Addr} {o:Obj} (hb:b∈fp) (e:h.get? b=some o):(b,o)∈iy fp h:=List.mem_filterMap.mpr ⟨b,hb,by rw [e];rfl⟩
theorem nO {fp:List Addr} {h:Heap} {p:Addr×Obj} (hp:p∈iy fp h):p.1∈fp/\h.get? p.1=some p.2:=by
 obtain ⟨b,hb,e⟩:=List.mem_filterMap.mp hp;cases q:h.get? b with
 | none=>rw [q] at e;cases e
 | some o =>
  rw [q] at e;have e':(b,o)=p:=Hr e;subst e';exact ⟨hb,q⟩
theorem Inv.pinned {pins:List (Addr×Obj)} {σ:St} {H:Hp} {s:Shared} {fp:List Addr} (I:Inv X pins σ H s) (hf:∀ b∈fp,qY X pins H b) (ho:∀ b∈fp,∃ o,s.heap.get? b=some o/\∀ v,o.data≠.cell v):Inv X (pins++iy fp s.heap) σ H s :=
 I.cC fun p hp=>(GS.mp hp).elim (fun z=>I.pin p (Gr _ z)) fun z=>by
  obtain ⟨hb,e⟩:=nO z;obtain ⟨f0,f1,f2,_⟩:=hf p.1 hb;obtain ⟨o,e',d⟩:=ho p.1 hb;rw [e] at e';cases e';exact ⟨e,f0,f1,f2,d⟩
theorem Inv.fT {pins pl:List (Addr×Obj)} {σ:St} {H:Hp} {s:Shared} (I:Inv X (pins++pl) σ H s):Inv X pins σ H s:=I.cC fun p hp=>I.pin p (Gr _ (GQ _ hp))
theorem xQ {iter:Expr} {body:List Stmt} {wi:TI} {g:TG} {tb:TS} {pos:Pos} (hp:PassesOwn (model X.prog X.w) X.A X.env X.xe) (hc:X.calm=true) (hi:PI X tg iter wi) (hg:PG X tg g) (hb:PSs X body tb)
  (hs:∀ x,foldedSetIterable iter X.env x=pure x:=by intro _;rfl):PS X (.For tg iter body [] pos) (zy wi g tb):=by
 intro pins s σ H D I h;refine wpAny_For (thn (hi pins s σ H _ I h) fun v s1 h1=>thn h1 fun itv s2 h2=>?_) hs;obtain ⟨it,fp,tn,J,H2,e,I2,T,st2,f2,W,⟨m0,w0⟩,turn⟩:=h2;subst e;have stat:∀ {H':Hp},(∀ b∈fp,H' b=none)->∀ b∈fp,qY X pins H' b:=fun hn b hb=>⟨hn b hb,(f2 b hb).2⟩;refine codeAny_forLoop_any (fun n s'=>∃ i σ' H',Inv X pins σ' H' s'/\tn i s'.heap/\(∀ b∈fp,H' b=none)/\W i n σ' H') ?_ m0 ⟨0,σ,H2,I2,st2,fun b hb=>(f2 b hb).1,w0⟩;rintro n s3 ⟨i,σ3,H3,I3,st3,fr3,w3⟩;rcases turn i n σ3 H3 w3 with ⟨stop,qn⟩ | ⟨go,N,hN,step⟩
 ·refine Jy hp (thn (T.done X rfl rfl rfl hc i pins s3 σ3 H3 X.xe I3 (stat fr3) st3 stop) fun r s4 ⟨hr,I4⟩=>?_);subst hr;exact wpAny_execs_nil ⟨σ3,H3,I4,qn⟩
 ·refine Jy hp (thn (T.item X rfl rfl rfl hc i pins s3 σ3 H3 X.xe I3 (stat fr3) st3 go) fun r s4 ⟨u,hr,h4⟩=>?_);subst hr;refine Jy hp (thn h4 fun _ s5 ⟨x,H5,I5,r5,y5,st5,fr5⟩=>?_);have I5':=I5.pinned (stat fr5) (T.obj _ _ st5);refine Jy hp (thn (hg _ s5 σ3 H5 x u _ I5' r5 (step x H5 y5)) fun _ s6 ⟨σ6,H6,I6,q6⟩=>?_);refine Jy hp (thn (hb _ s6 σ6 H6 _ I6 q6) fun f s7 q7=>?_);have again:∀ {σ7:St} {H7:Hp},Inv X (pins++iy fp s5.heap) σ7 H7 s7->N σ7 H7->∃ m,m < n/\∃ i σ' H',Inv X pins σ' H' s7/\tn i s7.heap/\(∀ b∈fp,H' b=none)/\W i m σ' H':=fun {σ7 H7} I7 n7=>by
   obtain ⟨m',hm,w7⟩:=hN σ7 H7 n7;refine ⟨m',hm,i+1,σ7,H7,I7.fT,T.keep _ _ _ st5 fun b hb o e=>(I7.pin (b,o) (Gr _ (Gr _ (bz hb e)))).1,fun b hb=>?_,w7⟩;obtain ⟨o,e,d⟩:=T.obj _ _ st5 b hb;exact (I7.pin (b,o) (Gr _ (Gr _ (bz hb e)))).2.1
  cases f with
  | next=>obtain ⟨σ7,H7,I7,n7⟩:=q7;exact again I7 n7
  | cont=>obtain ⟨σ7,H7,I7,n7⟩:=q7;exact again I7 n7
  | brk=>obtain ⟨σ7,H7,I7,q7⟩:=q7;exact ⟨σ7,H7,I7.fT,q7⟩
  | ret v=>obtain ⟨x7,σ7,H7,I7,r7,q7⟩:=q7;exact ⟨x7,σ7,H7,I7.fT,r7,q7⟩
end
end L2
namespace L2
open PySem PySem.Spec PyProof.Rows
abbrev R2:=V->V->Hp->VK->Prop
def OpR (X:Cx) (f:Value->Value->Sem Value) (r:R2):Prop :=
 ∀ (pins:List (Addr×Obj)) (s:Shared) (σ:St) (H:Hp) (x y:V) (v u:Value) (Q:VK),Inv X pins σ H s->RelV x v->RelV y u->r x y H Q ->
  wpAny (model X.prog X.w) X.A (f v u) (EP X pins σ Q) X.xe s
def UnR (X:Cx) (f:Value->Sem Value) (r:V->Hp->VK->Prop):Prop :=
 ∀ (pins:List (Addr×Obj)) (s:Shared) (σ:St) (H:Hp) (x:V) (v:Value) (Q:VK),Inv X pins σ H s->RelV x v->r x H Q ->
  wpAny (model X.prog X.w) X.A (f v) (EP X pins σ Q) X.xe s
def az (X:Cx) (f:Value) (r:List V->Hp->VK->Prop):Prop :=
 ∀ (pins:List (Addr×Obj)) (s:Shared) (σ:St) (H:Hp) (xs:List V) (us:List Value) (Q:VK),Inv X pins σ H s->Vals xs us->r xs H Q ->
  wpAny (model X.prog X.w) X.A (call f us) (EP X pins σ Q) X.xe s
def Fs (X:Cx) (r:V->Hp->(Bool->Hp->Prop)->Prop):Prop :=
 ∀ (pins:List (Addr×Obj)) (s:Shared) (σ:St) (H:Hp) (x:V) (v:Value) (Q:Bool->Hp->Prop),Inv X pins σ H s->RelV x v->r x H Q ->
  wpAny (model X.prog X.w) X.A (truthy v) (TP X pins σ Q) X.xe s
def tOp (r:R2) (ta tb:TE):TE:=fun σ H Q=>ta σ H fun x H1=>tb σ H1 fun y H2=>r x y H2 Q
def tUn (r:V->Hp->VK->Prop) (ta:TE):TE:=fun σ H Q=>ta σ H fun x H1=>r x H1 Q
def rI (C:Int->Int->Prop) (g:Int->Int->V):R2:=fun x y H Q=>∃ i j,x=.int i/\y=.int j/\C i j/\Q (g i j) H
def rI0 (g:Int->Int->V):R2:=fun x y H Q=>∃ i j,x=.int i/\y=.int j/\Q (g i j) H
def rU (g:Int->V):V->Hp->VK->Prop:=fun x H Q=>∃ i,x=.int i/\Q (g i) H
section
variable {X:Cx} {a b c:Expr} {ta tb tc:TE} {pos:Pos}
theorem El (ha:PE X a ta) (hb:PE X b tb) {pins:List (Addr×Obj)} {s:Shared} {σ:St} {H:Hp} {R:V->V->Hp->Prop} (I:Inv X pins σ H s)
  (h:ta σ H fun x H1=>tb σ H1 fun y H2=>R x y H2) {Q:Value->Shared->Prop} {f:Value->Value->Sem Value}
  (hf:∀ v u s2 x y H2,Inv X pins σ H2 s2->RelV x v->RelV y u->R x y H2->wpAny (model X.prog X.w) X.A (f v u) Q X.xe s2) :
  wpAny (model X.prog X.w) X.A (eval a X.env) (fun v s₁=>wpAny (model X.prog X.w) X.A (eval b X.env) (fun u s₂=>wpAny (model X.prog X.w) X.A (f v u) Q X.xe s₂) X.xe s₁) X.xe s:=by
 refine thn (ha pins s σ H _ I h) fun v s1 ⟨x,H1,I1,r1,q1⟩=>?_;refine thn (hb pins s1 σ H1 _ I1 q1) fun u s2 ⟨y,H2,I2,r2,q2⟩=>?_;exact hf v u s2 x y H2 I2 r1 r2 q2
theorem Ce {op:Operator} {r:R2} (ho:OpR X (binaryOp op) r) (ha:PE X a ta) (hb:PE X b tb):PE X (.BinOp a op b pos) (tOp r ta tb):=by
 intro pins s σ H Q I h;exact wpAny_BinOp (El ha hb I h fun v u s2 x y H2 I2 rx ry q=>ho pins s2 σ H2 x y v u Q I2 rx ry q)
theorem DW {op:UnaryOp} {r:V->Hp->VK->Prop} (ho:UnR X (unaryOp op) r) (ha:PE X a ta):PE X (.UnaryOp op a pos) (tUn r ta):=by
 intro pins s σ H Q I h;exact UnaryOp_ (thn (ha pins s σ H _ I h) fun v s1 ⟨x,H1,I1,r1,q1⟩=>ho pins s1 σ H1 x v Q I1 r1 q1)
theorem opI {f:Value->Value->Sem Value} {C:Int->Int->Prop} {g:Int->Int->Int}
  (rule:∀ (i j:Int) (t u:Tok) (s:Shared) (Q:Value->Shared->Prop) (E:Value->Shared->Prop),C i j->Q (.int (g i j) s.toks) { s with toks:=s.toks+1 }->wpAny (model X.prog X.w) X.A (f (.int i t) (.int j u)) Q E s) :
  OpR X f (rI C fun i j=>.int (g i j)):=by
 intro pins s σ H x y v u Q I rx ry h;obtain ⟨i,j,rfl,rfl,hc,q⟩:=h;obtain ⟨t,rfl⟩:=rx;obtain ⟨t',rfl⟩:=ry;exact rule i j t t' s _ _ hc ⟨.int (g i j),H,I.tok _,⟨_,rfl⟩,q⟩
theorem Et {f:Value->Value->Sem Value} {g:Int->Int->Int}
  (rule:∀ (i j:Int) (t u:Tok) (s:Shared) (Q:Value->Shared->Prop) (E:Value->Shared->Prop),Q (.int (g i j) s.toks) { s with toks:=s.toks+1 }->wpAny (model X.prog X.w) X.A (f (.int i t) (.int j u)) Q E s) :
  OpR X f (rI0 fun i j=>.int (g i j)):=by
 intro pins s σ H x y v u Q I rx ry h;obtain ⟨i,j,rfl,rfl,q⟩:=h;obtain ⟨t,rfl⟩:=rx;obtain ⟨t',rfl⟩:=ry;exact rule i j t t' s _ _ ⟨.int (g i j),H,I.tok _,⟨_,rfl⟩,q⟩
theorem Dd {f:Value->Value->Sem Value} {g:Int->Int->Bool}
  (rule:∀ (i j:Int) (t u:Tok) (s:Shared) (Q:Value->Shared->Prop) (E:Value->Shared->Prop),Q (.bool (g i j)) s->wpAny (model X.prog X.w) X.A (f (.int i t) (.int j u)) Q E s) :
  OpR X f (rI0 fun i j=>.bl (g i j)):=by
 intro pins s σ H x y v u Q I rx ry h;obtain ⟨i,j,rfl,rfl,q⟩:=h;obtain ⟨t,rfl⟩:=rx;obtain ⟨t',rfl⟩:=ry;exact rule i j t t' s _ _ ⟨.bl (g i j),H,I,rfl,q⟩
def ET (i j:Int):Prop:=0<=j/\j<=1000000/\i.natAbs < 2 ^ 64
def x2 (i j:Int):Prop:=(-(2 ^ 64) < i/\i < 2 ^ 64)\/(-(2 ^ 64) < j/\j < 2 ^ 64)
theorem x2.ok {i j:Int} (h:x2 i j):IntMulOk i j:=by
 rcases h with ⟨h1,h2⟩ | ⟨h1,h2⟩
 ·exact .of_left (intBits_le_64 h1 h2)
 ·exact .of_right (intBits_le_64 h1 h2)
theorem Ah:OpR X (binaryOp .Add) (rI0 fun i j=>.int (i+j)):=Et fun _ _ _ _ _ _ _ q=>add_int q
theorem zz:OpR X (binaryOp .Sub) (rI0 fun i j=>.int (i - j)):=Et fun _ _ _ _ _ _ _ q=>sub_int q
theorem zQ:OpR X (binaryOp .Mult) (rI x2 fun i j=>.int (i*j)):=opI fun _ _ _ _ _ _ _ hc q=>mul_int q hc.ok
theorem AH:OpR X (binaryOp .Mod) (rI (fun _ j=>0 < j) fun i j=>.int (i % j)):=opI fun i j _ _ _ _ _ hc q=>by
 have h1:(0:Int) < j:=hc;exact mod_int' (by omega) (by rw [Int.fmod_eq_emod_of_nonneg i (by omega)];exact q)
theorem Aw:OpR X (binaryOp .Pow) (rI ET fun i j=>.int (i ^ j.toNat)):=opI fun _ _ _ _ _ _ _ hc q=>pow_int_small hc.1 hc.2.1 hc.2.2 q
theorem unI {f:Value->Sem Value} {g:Int->Int}
  (rule:∀ (i:Int) (t:Tok) (s:Shared) (Q:Value->Shared->Prop) (E:Value->Shared->Prop),Q (.int (g i) s.toks) { s with toks:=s.toks+1 }->wpAny (model X.prog X.w) X.A (f (.int i t)) Q E s) :
  UnR X f (rU fun i=>.int (g i)):=by
 intro pins s σ H x v Q I rx h;obtain ⟨i,rfl,q⟩:=h;obtain ⟨t,rfl⟩:=rx;exact rule i t s _ _ ⟨.int (g i),H,I.tok _,⟨_,rfl⟩,q⟩
theorem yM:UnR X (unaryOp .USub) (rU fun i=>.int (-i)):=unI fun _ _ _ _ _ q=>neg_int q
end
section
variable {X:Cx} {a b c:Expr} {ta tb tc:TE} {pos:Pos}
theorem nJ {pins:List (Addr×Obj)} {σ:St} {H:Hp} {s:Shared} {Q:VK} {k k':Bool} (I:Inv X pins σ H s) (q:Q (.bl k) H) (e:k=k'):EP X pins σ Q (.bool k') s:=by
 subst e;exact ⟨.bl k,H,I,rfl,q⟩
theorem De:OpR X (compareOp .Lt) (rI0 fun i j=>.bl (decide (i < j))):=Dd fun _ _ _ _ _ _ _ q=>lt_int q
theorem Dk:OpR X (compareOp .Gt) (rI0 fun i j=>.bl (decide (j < i))):=Dd fun _ _ _ _ _ _ _ q=>gt_int q
theorem C8:OpR X (compareOp .GtE) (rI0 fun i j=>.bl (decide (j<=i))):=Dd fun _ _ _ _ _ _ _ q=>ge_int q
theorem qR:OpR X (compareOp .Lt) (fun x y H Q=>∃ i j,x=.str i/\y=.str j/\Q (.bl (decide (i.cps.toList < j.cps.toList))) H):=by
 intro pins s σ H x y v u Q I rx ry h;obtain ⟨i,j,rfl,rfl,q⟩:=h;obtain ⟨t,rfl⟩:=rx;obtain ⟨t',rfl⟩:=ry;exact lt_str (nJ I q rfl)
theorem qp:OpR X (compareOp .In) (fun x y H Q=>∃ i j,x=.str i/\y=.str j/\Q (.bl (!(Builtin.Str.occurrences j i 0 j.length 1).isEmpty)) H):=by
 intro pins s σ H x y v u Q I rx ry h;obtain ⟨i,j,rfl,rfl,q⟩:=h;obtain ⟨t,rfl⟩:=rx;obtain ⟨t',rfl⟩:=ry;exact in_str (nJ I q rfl)
theorem wG:OpR X (compareOp .IsNot) (fun x y H Q=>y=.non/\Q (.bl (!decide (x=.non))) H):=by
 intro pins s σ H x y v u Q I rx ry h;obtain ⟨rfl,q⟩:=h;cases ry;refine isnot_none_gen (nJ I q ?_);cases x <;> first
  | (cases rx;rfl)
  | (obtain ⟨t,rfl⟩:=rx;rfl)
theorem fc (b:Expr) {op:CmpOp} (h:op≠.In:=by decide) (h2:op≠.NotIn:=by decide):behindInMarks op b=false:=by
 have e1:(op==CmpOp.In)=false:=by cases op <;> first | rfl | exact absurd rfl h
 have e2:(op==CmpOp.NotIn)=false:=by cases op <;> first | rfl | exact absurd rfl h2
 cases b <;> simp [behindInMarks,e1,e2]
theorem vv {op:CmpOp} {r:R2} (ho:OpR X (compareOp op) r) (ha:PE X a ta) (hb:PE X b tb) (hm:behindInMarks op b=false):PE X (.Compare a [op] [b] pos) (tOp r ta tb):=by
 intro pins s σ H Q I h;exact wpAny_Compare1 (El ha hb I h fun v u s2 x y H2 I2 rx ry q=>ho pins s2 σ H2 x y v u Q I2 rx ry q) hm
def vB (t:TE):TT:=fun σ H Q=>t σ H fun x H'=>∃ k,x=.bl k/\Q k H'
theorem vb {op:CmpOp} {r:R2} (ho:OpR X (compareOp op) r) (ha:PE X a ta) (hb:PE X b tb) (hm:behindInMarks op b=false):PT X (.Compare a [op] [b] pos) (vB (tOp r ta tb)):=by
 intro pins s σ H Q I h
 refine wpAny_isTrue_Compare1 (thn (ha pins s σ H _ I h) fun v s1 ⟨x,H1,I1,r1,q1⟩=>thn (hb pins s1 σ H1 _ I1 q1) fun u s2 ⟨y,H2,I2,r2,q2⟩ =>
  thn (ho pins s2 σ H2 x y v u _ I2 r1 r2 q2) fun c s3 ⟨z,H3,I3,r3,k,e,q3⟩=>?_) hm
 subst e;cases r3;exact wpAny_truthy_bool ⟨H3,I3,q3⟩
def AY (r r':R2) (ta tb tc:TE):TE:=fun σ H Q=>ta σ H fun x H1=>tb σ H1 fun y H2=>r x y H2 fun z H3=>∃ k,z=.bl k /\
 (if k=true then tc σ H3 fun w' H4=>r' y w' H4 Q else Q (.bl false) H3)
def Cf (K:Fg) (x:V) (H:Hp) (k:Bool):Prop :=
 match x with
 | .non=>k=false
 | .bl b=>k=b
 | .int i=>k=(i != 0)
 | .str y=>y.length<=sizeLine/\k=((y.length:Int) != 0)
 | .byt y=>y.size<=sizeLine/\k=((y.size:Int) != 0)
 | .ref p=>(∃ xs,SqL K H p xs/\k=!xs.isEmpty)\/(∃ xs,SqT K H p xs/\k=!xs.isEmpty)\/∃ kvs,H p=some (.dK kvs)/\k=!kvs.isEmpty
 | _=>False
theorem nj {κ:Type} {kvs:List (κ×V)} {vs:List (κ×Value)} (r:KV kvs vs):(!vs.isEmpty)=!kvs.isEmpty:=by
 cases r <;> rfl
theorem ix {xs:List V} {its:List Value} (r:Vals xs its):(!its.toArray.isEmpty)=!xs.isEmpty:=by
 cases r <;> simp
theorem ig:(sizeLine:Nat) < 2 ^ 63:=by rw [Hm];decide
theorem EA:Fs X (fun x H Q=>∃ k,Cf X.K x H k/\Q k H):=by
 intro pins s σ H x v Q I rx h;obtain ⟨k,e,q⟩:=h;have hl:=ig;have hs:sizeLine=16777216:=Hm;cases x with
 | non =>
  cases rx;have e':k=false:=e;subst e';exact truthy_none ⟨H,I,q⟩
 | bl b =>
  cases rx;have e':k=b:=e;subst e';exact wpAny_truthy_bool ⟨H,I,q⟩
 | int i =>
  obtain ⟨t,rfl⟩:=rx;have e':k=(i != 0):=e;subst e';exact PySem.P.truthy_int ⟨H,I,q⟩
 | str y =>
  obtain ⟨t,rfl⟩:=rx;obtain ⟨hy,e'⟩:y.length<=sizeLine/\k=((y.length:Int) != 0):=e;subst e';exact PySem.P.truthy_str (by omega) ⟨H,I.tok _,q⟩
 | byt y =>
  obtain ⟨t,rfl⟩:=rx;obtain ⟨hy,e'⟩:y.size<=sizeLine/\k=((y.size:Int) != 0):=e;subst e';exact PySem.W.truthy_bytes (by omega) ⟨H,I.tok _,q⟩
 | ref p =>
  cases rx;have e':(∃ xs,SqL X.K H p xs/\k=!xs.isEmpty)\/(∃ xs,SqT X.K H p xs/\k=!xs.isEmpty)\/∃ kvs,H p=some (.dK kvs)/\k=!kvs.isEmpty:=e;rcases e' with ⟨xs,hx,e'⟩ | ⟨xs,hx,e'⟩ | ⟨kvs,hx,e'⟩
  ·subst e';obtain ⟨its,r,pl,hz⟩:=I.list hx;have hlen:=r.length;exact wpAny_truthy_list pl.isList (by simp only [Gw];omega) ⟨H,I.tok _,by rw [ix r];exact q⟩
  ·subst e';obtain ⟨its,r,pl,hz⟩:=I.tuple hx;have hlen:=r.length;exact truthy_tuple pl (by simp only [Gw];omega) ⟨H,I.tok _,by rw [ix r];exact q⟩
  ·subst e';obtain ⟨hz,hS,vs,r,m⟩:kvs.length<=sizeLine/\(p==sysModules)=false/\∃ vs,KV kvs vs/\s.heap.DictOf (kK X.prog X.w) p vs:=I.hok p _ hx;have hlen:kvs.length=vs.length:=Paired.length r;exact wpAny_truthy_dict hS m (by omega) ⟨H,I.tok _,by rw [nj r];exact q⟩
 | _=>exact (show False from e).elim
theorem mP:OpR X (binaryOp .Add) (fun x y H Q=>∃ i j,x=.str i/\y=.str j/\i.length+j.length<=sizeLine/\Q (.str (i++j)) H):=by
 intro pins s σ H x y v u Q I rx ry h;obtain ⟨i,j,rfl,rfl,hz,q⟩:=h;obtain ⟨t,rfl⟩:=rx;obtain ⟨t',rfl⟩:=ry;exact add_str (fun t' tk=>⟨.str (i++j),H,I.tok _,⟨_,rfl⟩,q⟩) hz
theorem vals1 {x:V} {us:List Value} (r:Vals [x] us):∃ u,us=[u]/\RelV x u:=by
 cases r with
 | cons r1 r2=>cases r2;exact ⟨_,rfl,r1⟩
theorem vals2 {x y:V} {us:List Value} (r:Vals [x,y] us):∃ u w',us=[u,w']/\RelV x u/\RelV y w':=by
 cases r with
 | cons r1 r2 =>
  cases r2 with
  | cons r3 r4=>cases r4;exact ⟨_,_,rfl,r1,r3⟩
theorem rH:az X (.builtin "abs") (fun xs H Q=>∃ i,xs=[.int i]/\Q (.int (if i < 0 then -i else i)) H):=by
 intro pins s σ H xs us Q I r h;obtain ⟨i,rfl,q⟩:=h;obtain ⟨u,rfl,t,rfl⟩:=vals1 r;exact call_abs_int fun u tk=>⟨.int (if i < 0 then -i else i),H,I.tok _,⟨_,rfl⟩,q⟩
theorem qj (hc:X.calm=true):az X (.builtin "min") (fun xs H Q=>∃ i j,xs=[.int i,.int j]/\Q (.int (if j < i then j else i)) H):=by
 intro pins s σ H xs us Q I r h;obtain ⟨i,j,rfl,q⟩:=h;obtain ⟨u,w',rfl,⟨t,rfl⟩,⟨t',rfl⟩⟩:=vals2 r;refine min_two_ints (I.ok.hd hc) fun h' tk k=>⟨_,H,I.kept k,?_,q⟩;by_cases hj:j < i
 ·rw [Gs hj,Gs hj];exact ⟨_,rfl⟩
 ·rw [Gy hj,Gy hj];exact ⟨_,rfl⟩
theorem oe:az X (.type "int") (fun xs H Q=>(∃ i,xs=[.int i]/\Q (.int i) H)\/∃ k,xs=[.bl k]/\Q (.int (if k then 1 else 0)) H):=by
 intro pins s σ H xs us Q I r h;rcases h with ⟨i,rfl,q⟩ | ⟨k,rfl,q⟩
 ·obtain ⟨u,rfl,t,rfl⟩:=vals1 r;exact call_int_int ⟨.int i,H,I,⟨_,rfl⟩,q⟩
 ·obtain ⟨u,rfl,r1⟩:=vals1 r;cases r1;exact call_int_bool ⟨.int (if k then 1 else 0),H,I.tok _,⟨_,rfl⟩,q⟩
def E7 (K:Fg) (x:V) (H:Hp) (n:Nat):Prop :=
 match x with
 | .str y=>y.length<=sizeLine/\n=y.length
 | .byt y=>y.size<=sizeLine/\n=y.size
 | .ref p=>(∃ xs,SqL K H p xs/\n=xs.length)\/∃ xs,SqT K H p xs/\n=xs.length
 | _=>False
theorem tP:az X (.builtin "len") (fun xs H Q=>∃ x n,xs=[x]/\E7 X.K x H n/\Q (.int n) H):=by
 intro pins s σ H xs us Q I r h;obtain ⟨x,n,rfl,e,q⟩:=h;obtain ⟨u,rfl,rx⟩:=vals1 r;have hl:=ig;have hs:sizeLine=16777216:=Hm;cases x with
 | str y =>
  obtain ⟨t,rfl⟩:=rx;obtain ⟨hy,e'⟩:y.length<=sizeLine/\n=y.length:=e;subst e';exact len_str (by omega) ⟨.int _,H,I.tok _,⟨_,rfl⟩,q⟩
 | byt y =>
  obtain ⟨t,rfl⟩:=rx;obtain ⟨hy,e'⟩:y.size<=sizeLine/\n=y.size:=e;subst e';exact PySem.W.len_bytes (by omega) ⟨.int _,H,I.tok _,⟨_,rfl⟩,q⟩
 | ref p =>
  cases rx;have e':(∃ xs,SqL X.K H p xs/\n=xs.length)\/∃ xs,SqT X.K H p xs/\n=xs.length:=e;rcases e' with ⟨xs,hx,e'⟩ | ⟨xs,hx,e'⟩
  ·subst e';obtain ⟨its,r',pl,hz⟩:=I.list hx;have hlen:=r'.length;exact Calls.call_len_list pl.isList (by simp only [Gw];omega) ⟨.int xs.length,H,I.tok _,⟨_,by simp only [Gw];rw [hlen]⟩,q⟩
  ·subst e';obtain ⟨its,r',pl,hz⟩:=I.tuple hx;have hlen:=r'.length;exact len_tuple pl (by simp only [Gw];omega) ⟨.int xs.length,H,I.tok _,⟨_,by simp only [Gw];rw [hlen]⟩,q⟩
 | _=>exact (show False from e).elim
end
end L2
namespace L2
open PySem PySem.Spec PyProof.Rows
structure eD (k:Nat) (A:Around):Prop where
 hd:A.handled=none
 dp:A.depth+3*k+5 < recursionLimit
 un:A.units+16*k+200 < cLine
 gd:A.guards=some []
theorem eD.mono {j k:Nat} {A:Around} (r:eD k A) (h:j<=k):eD j A:=⟨r.hd,by have:=r.dp;omega,by have:=r.un;omega,r.gd⟩
theorem eD.deeper {k:Nat} {A:Around} (r:eD (k+1) A) (env:Env):eD k (A.deeper env) :=
 ⟨r.hd,by have:=r.dp;show A.depth+1+3*k+5 < _;omega,by have:=r.un;show A.units+3+16*k+200 < _;omega,r.gd⟩
theorem eD.depth {k:Nat} {A:Around} (r:eD k A):A.depth < recursionLimit:=by have:=r.dp;omega
theorem eD.units {k:Nat} {A:Around} (r:eD k A):A.units+64 < cLine:=by have:=r.un;omega
def v7:TA:=fun _ H Q=>Q [] H
def jA (ta:TE) (tr:TA):TA:=fun σ H Q=>ta σ H fun x H1=>tr σ H1 fun xs H2=>Q (x :: xs) H2
section
variable {X:Cx} {e:Expr} {es:List Expr} {te:TE} {t:TA} {pos:Pos}
theorem yO:PA X [] v7:=fun _ _ _ _ H Q I h=>Calls.spliced_nil ⟨[],H,I,.nil,h⟩
theorem v3 (ha:PE X e te) (hr:PA X es t) (hs:starEach (e :: es) X.env=(false,eval e X.env) :: starEach es X.env:=by rfl):PA X (e :: es) (jA te t):=by
 intro pos pins s σ H Q I h;rw [hs];show wpAny _ _ (spliced ((false,eval e X.env) :: backTo pos (starEach es X.env))) _ _ s;refine Calls.spliced_cons (thn (ha pins s σ H _ I h) fun u s1 ⟨x,H1,I1,r1,q1⟩=>?_);exact thn (hr pos pins s1 σ H1 _ I1 q1) fun us s2 ⟨xs,H2,I2,r2,q2⟩=>⟨x :: xs,H2,I2,.cons r1 r2,q2⟩
def D8 (t:TA):TE:=fun σ H Q=>t σ H fun xs H1=>xs.length<=sizeLine/\∀ p,H1 p=none->Q (.ref p) (upd H1 p (.tup xs))
def CH (t:TA):TE:=fun σ H Q=>t σ H fun xs H1=>xs.length<=sizeLine/\∀ p,H1 p=none->Q (.ref p) (upd H1 p (.lst xs))
theorem Aj {x1} (h:PA X es t):PE X (.Tuple es x1 pos) (D8 t):=by
 intro pins s σ H Q I hq;refine wpAny_Tuple_spliced (thn (h pos pins s σ H _ I hq) fun us s1 ⟨xs,H1,I1,r,z,q⟩=>⟨by rw [<- r.length];exact z,?_⟩);have hf:H1 s1.heap.objs.size=none:=I1.hok.fresh (Gu _);refine ⟨.ref s1.heap.objs.size,upd H1 s1.heap.objs.size (.tup xs),I1.laid (t':=s1.toks) (fun b u e=>Gq _ e) (Gu _) ?_,rfl,q _ hf⟩;exact ⟨z,us,r,⟨_,GR _ rfl,rfl,_,rfl⟩⟩
theorem yG (h:PA X es t):PE X (.List es pos) (CH t):=by
 intro pins s σ H Q I hq;refine wpAny_List_spliced (thn (h pos pins s σ H _ I hq) fun us s1 ⟨xs,H1,I1,r,z,q⟩=>⟨by rw [<- r.length];exact z,?_⟩);have hf:H1 s1.heap.objs.size=none:=I1.hok.fresh (Gu _);refine ⟨.ref s1.heap.objs.size,upd H1 s1.heap.objs.size (.lst xs),I1.laid (t':=s1.toks) (fun b u e=>Gq _ e) (Gu _) ?_,rfl,q _ hf⟩;exact ⟨z,us,0,r,GR _ rfl⟩
end
abbrev Sp:=List V->Hp->VK->XK->Prop
abbrev CXT:=List Env->Hp->Shared->XK->Value->Shared->Prop
structure Bt (P:Program) (w:World) (K:Fg) (mg:Str->Option Value) (base:Heap) (A:Around) (outer:List Env) (s:Shared) (H:Hp):Prop where
 frames:A.frames=some outer
 mod:Mod K mg base
 bs:∀ b o,base.get? b=some o->s.heap.get? b=some o/\H b=none
 bsz:base.objs.size<=s.heap.objs.size
 pe:s.heap.FunFrames base outer
 frf:∀ b∈frs outer,H b=none
 hok:HOk P w H s.heap
 bare:AllBare s.gens
def CE (outer:List Env) (P:Program) (w:World) (H:Hp) (s:Shared) (Q:VK) (u:Value) (s':Shared):Prop :=
 ∃ v H',s'.os=s.os/\AllBare s'.gens/\Un (frs outer) [] H H' s.heap s'.heap/\HOk P w H' s'.heap/\RelV v u/\Q v H'
def CR (CX:CXT) (outer:List Env) (P:Program) (w:World) (H:Hp) (s:Shared) (Q:VK) (E:XK) (r:Result) (s':Shared):Prop :=
 match r with
 | .ok (.ret u)=>CE outer P w H s Q u s'
 | .ok _=>False
 | .error e=>CX outer H s E e s'
structure bN (P:Program) (w:World) (K:Fg) (mg:Str->Option Value) (base:Heap) (CX:CXT) (k:Nat) (f:Addr) (fd:FuncData) (ps:List Str) (sp:Sp):Prop where
 len:∀ vs H Q E,sp vs H Q E->vs.length=ps.length
 run:∀ (A:Around) (outer:List Env) (s:Shared) (H:Hp) (args:Args) (us:List Value) (vs:List V) (Q:VK) (E:XK),eD k A->Bt P w K mg base A outer s H->BindsTo s fd args (ps.zip us)->Vals vs us->sp vs H Q E ->
  codeAny (model P w) A (.call (.ref f) args) (CR CX outer P w H s Q E) s
theorem bN.mono {P:Program} {w:World} {K:Fg} {mg:Str->Option Value} {base:Heap} {CX:CXT} {j k:Nat} {f:Addr} {fd:FuncData} {ps:List Str} {sp:Sp} (F:bN P w K mg base CX j f fd ps sp) (h:j<=k) :
  bN P w K mg base CX k f fd ps sp:=⟨F.len,fun A outer s H args us vs Q E hr=>F.run A outer s H args us vs Q E (hr.mono h)⟩
section
variable {X:Cx} {pins:List (Addr×Obj)} {σ:St} {H:Hp} {s s':Shared}
theorem Inv.BC (I:Inv X pins σ H s):Bt X.prog X.w X.K X.mg X.base X.A X.stack s H :=
 ⟨I.ok.frames,I.ok.mod,I.bs,GU I.ok.bsz I.sz,I.stack,I.k9,I.hok,I.bare⟩
theorem Inv.after {Q:VK} {u:Value} (I:Inv X pins σ H s) (h:CE X.stack X.prog X.w H s Q u s'):EP X pins σ Q u s':=by
 obtain ⟨v,H',os,bare,un,hok,r,q⟩:=h;obtain ⟨hh,g,d,t,os'⟩:=s';obtain rfl:os'=s.os:=os;exact ⟨v,H',I.call (h':=hh) (g':=g) (d':=d) (t':=t) (ch:=[]) un hok bare (fun b z=>absurd z (by simp)),r,q⟩
end
def pW (sp:Sp) (dvs:List V) (E:XK) (t:TA):TE:=fun σ H Q=>t σ H fun vs H1=>sp (vs++dvs) H1 Q E
def Binds (K:Fg) (fd:FuncData) (ps:List Str) (ds:List Value):Prop :=
 ∀ (s:Shared) (us:List Value),K.In s.heap->(us++ds).length=ps.length->BindsTo s fd ⟨us,[]⟩ (ps.zip (us++ds))
theorem Binds.all {K:Fg} {fd:FuncData} {ps:List Str} (h:∀ us:List Value,us.length=ps.length->bindArgs fd ⟨us,[]⟩=pure (ps.zip us)):Binds K fd ps []:=fun s us _ hl=>by
 rw [Hx] at hl ⊢;exact .of_eq (h us hl)
def Passes (CX:CXT) (X:Cx) (E:XK):Prop:=∀ (pins:List (Addr×Obj)) (σ:St) (H:Hp) (s:Shared) (e:Value) (s':Shared),Inv X pins σ H s->CX X.stack H s E e s'->X.xe e s'
section
variable {X:Cx} {CX:CXT} {k:Nat} {f C:Addr} {fd:FuncData} {ps:List Str} {sp:Sp} {dvs:List V} {ds:List Value} {E:XK} {x m:Str} {p pos apos:Pos} {e o:Expr} {es:List Expr} {ta:TE} {t:TA}
theorem AN {pins:List (Addr×Obj)} {σ:St} {H:Hp} {s:Shared} {Q:VK} {us:List Value} {vs:List V} (F:bN X.prog X.w X.K X.mg X.base CX k f fd ps sp) (hr:eD k X.A) (hb:Binds X.K fd ps ds) (hd:Vals dvs ds) (hx:Passes CX X E)
  (I:Inv X pins σ H s) (r:Vals vs us) (h:sp (vs++dvs) H Q E):wpAny (model X.prog X.w) X.A (call (.ref f) us) (EP X pins σ Q) X.xe s:=by
 have r2:Vals (vs++dvs) (us++ds):=r.append hd;have hl:(us++ds).length=ps.length:=by rw [<- r2.length];exact F.len _ _ _ _ h
 refine wpAny_call (Jf (F.run X.A X.stack s H ⟨us,[]⟩ (us++ds) (vs++dvs) Q E hr I.BC (hb s us I.kIn hl) r2 h) fun r s' hq=>?_);cases r with
 | error e=>exact hx pins σ H s e s' I hq
 | ok fl =>
  cases fl with
  | ret u=>exact I.after hq
  | next=>exact False.elim hq
  | brk=>exact False.elim hq
  | cont=>exact False.elim hq
theorem w6 (F:bN X.prog X.w X.K X.mg X.base CX k f fd ps sp) (hr:eD k X.A) (hg:Gl X x) (hm:X.mg x=some (.ref f)) (hk:PySem.W.keepIn X.K (.ref f)=true) (hb:Binds X.K fd ps ds) (hd:Vals dvs ds) (hx:Passes CX X E)
  (ha:PA X (e :: es) t) (hdb:(x==("__debug__" : Str))=false:=by decide) (he:starEach (e :: es) X.env=(false,eval e X.env) :: starEach es X.env:=by rfl) (hpl:(backTo pos (starEach es X.env)).any (·.1)=false:=by rfl) :
  PE X (.Call (.Name x p) (e :: es) [] pos) (pW sp dvs E t):=by
 intro pins s σ H Q I h;refine wpAny_Call_Name_kw (oN I hg hm ?_ hdb);refine PySem.W.callWith_K (h₀:=X.base) I.ok.mod.kin hk (thn (ha pos pins s σ H _ I h) fun us s1 ⟨vs,H1,I1,r,q⟩=>⟨I1.kIn,?_⟩) he hpl;exact AN F hr hb hd hx I1 r q
structure Mk (K:Fg) (C f:Addr):Prop where
 makes:PySem.W.makesIn K C=true
 init:PySem.W.findIn K (.ref C) "__init__" = some (some (.ref f))
 fn:PySem.W.isFn K (.ref f)=true
 kp:PySem.W.keepIn K (.ref C)=true
end
structure aq (N P:List Str) (sc:Scope):Prop where
 kind:sc.kind=.function
 co:sc.isCoroutine=false
 gen:sc.isGenerator=false
 nd:N.Nodup
 pre:N.take P.length=P
 par:∀ x∈P,sc.names.lookup x=some .local\/sc.names.lookup x=some .cell
 Az:∀ y∈sc.names,y.2≠.free
theorem ju {kindOf:Str->Option NameKind} {x:Str}:∀ {binds:List (Str×Value)} {m:Str->Option Value},(∀ v,(x,v) ∉ binds)->bindL kindOf binds m x=m x
 | [],_,_=>rfl
 | (n,v) :: r,m,h=>by
  unfold bindL;rw [ju fun w hw=>h w (Gp _ hw)];split
  ·have:x≠n:=by rintro rfl;exact h v Gm
   simp [this]
  ·rfl
theorem jP {kindOf:Str->Option NameKind} {x:Str}:∀ {binds:List (Str×Value)} {m:Str->Option Value},(∀ v,(x,v) ∉ binds)->bindC kindOf binds m x=m x
 | [],_,_=>rfl
 | (n,v) :: r,m,h=>by
  unfold bindC;rw [jP fun w hw=>h w (Gp _ hw)];split
  ·rfl
  ·have:x≠n:=by rintro rfl;exact h v Gm
   simp [this]
theorem jJ {kindOf:Str->Option NameKind} {x:Str} {v:Value}:∀ {P:List Str} {vs:List Value} {i:Nat} {m:Str->Option Value},P.Nodup->P[i]?=some x->vs[i]?=some v->kindOf x=some .local ->
  bindL kindOf (P.zip vs) m x=some v
 | [],_,_,_,_,h,_,_=>by simp at h
 | _ :: _,[],_,_,_,_,h,_=>by simp at h
 | p :: P,w :: vs,0,m,nd,h1,h2,hk=>by
  simp at h1 h2;subst h1;subst h2;show bindL kindOf ((p,w) :: P.zip vs) m p=_;unfold bindL;rw [ju fun v hv=>(Hu.mp nd).1 (List.of_mem_zip hv).1,Gs hk];simp
 | p :: P,w :: vs,i+1,m,nd,h1,h2,hk=>by
  show bindL kindOf ((p,w) :: P.zip vs) m x=_;unfold bindL;exact jJ (i:=i) (Hu.mp nd).2 (by simpa using h1) (by simpa using h2) hk
theorem jv {kindOf:Str->Option NameKind} {x:Str} {v:Value}:∀ {P:List Str} {vs:List Value} {i:Nat} {m:Str->Option Value},P.Nodup->P[i]?=some x->vs[i]?=some v->kindOf x≠some .local ->
  bindC kindOf (P.zip vs) m x=some v
 | [],_,_,_,_,h,_,_=>by simp at h
 | _ :: _,[],_,_,_,_,h,_=>by simp at h
 | p :: P,w :: vs,0,m,nd,h1,h2,hk=>by
  simp at h1 h2;subst h1;subst h2;show bindC kindOf ((p,w) :: P.zip vs) m p=_;unfold bindC;rw [jP fun v hv=>(Hu.mp nd).1 (List.of_mem_zip hv).1,Gy hk];simp
 | p :: P,w :: vs,i+1,m,nd,h1,h2,hk=>by
  show bindC kindOf ((p,w) :: P.zip vs) m x=_;unfold bindC;exact jv (i:=i) (Hu.mp nd).2 (by simpa using h1) (by simpa using h2) hk
noncomputable def start (N:List Str) (vs:List V):St:=vs.map some++List.replicate (N.length - vs.length) none
noncomputable def sJ (CX:CXT) (P:Program) (w:World) (K:Fg) (mg:Str->Option Value) (base:Heap) (N:List Str) (qual:Str) (scope:Scope) (f:Addr) (cd:Value) (A:Around) (outer:List Env) (s:Shared) (H:Hp) (E:XK):Cx where
 prog:=P
 w:=w
 K:=K
 mg:=mg
 base:=base
 A:=A.deeper (envOfC qual scope s.heap.objs.size f cd)
 N:=N
 s₀:=s
 H₀:=H
 env:=envOfC qual scope s.heap.objs.size f cd
 outer:=outer
 stack:=envOfC qual scope s.heap.objs.size f cd :: outer
 ex:=[]
 calm:=true
 fn:=fun _=>true
 pn:=[]
 xe:=fun e s'=>wpAny (model P w) (A.deeper (envOfC qual scope s.heap.objs.size f cd)) (leaving (envOfC qual scope s.heap.objs.size f cd) e) (fun _ s''=>CX outer H s E e s'') (fun e' s''=>CX outer H s E e' s'') s'
theorem lp {sc:Scope} {n:Nat} {x:Str} (h:sc.names.lookup x=some .cell):∃ c,(cellsFrom n sc.names []).lookup x=some c:=by
 have q:=PySem.W.cellsFrom_some sc.names n [] (.inl h);exact Option.isSome_iff_exists.mp q
theorem pL {CX:CXT} {P:Program} {w:World} {K:Fg} {mg:Str->Option Value} {base:Heap} {N ps:List Str} {qual:Str} {scope:Scope} {f:Addr} {cd:Value} {A:Around} {outer:List Env} {s s1:Shared} {H:Hp} {E:XK} {us:List Value} {vs:List V}
  (S:aq N ps scope) (hd:A.handled=none) (e0:Bt P w K mg base A outer s H) (hl:vs.length=ps.length) (r:Vals vs us)
  (x:InCallC s s.heap.objs.size (bindL (envOfC qual scope s.heap.objs.size f cd).kindOf (ps.zip us) fun _=>none) (cellsFrom (s.heap.objs.size+1) scope.names []) (bindC (envOfC qual scope s.heap.objs.size f cd).kindOf (ps.zip us) fun _=>none) s1) :
  Inv (sJ CX P w K mg base N qual scope f cd A outer s H E) [] (start N vs) H s1:=by
 have hpl:ps.length<=N.length:=by have:=congrArg List.length S.pre;rw [GX] at this;omega
 obtain ⟨h1,tk,rfl,hk⟩:=x.done;have noA:∀ b:Addr,b ∉ (sJ CX P w K mg base N qual scope f cd A outer s H E).ex:=fun b z=>absurd (show b∈([]:List Addr) from z) (by simp)
 refine ⟨⟨e0.mod,S.kind,rfl,rfl,Gu _,fun y z c h1 h2=>?_,fun y hy=>?_,fun y c _ h=>?_,fun _=>hd,Around.frames_deeper e0.frames,.inr ⟨rfl,rfl⟩,fun b z=>absurd z (noA b),e0.bs,e0.bsz,fun b _ _=>noA b,fun b z=>absurd z (noA b),e0.pe,e0.frf⟩,
  rfl,e0.bare,Un.kept hk,⟨_,x.toInCall.ns,fun i y v h1 h2 h3=>?_⟩,fun y c h=>⟨_,x.cell y c h⟩,e0.hok.fresh (Gu _),fun y c h=>?_,fun p hp=>absurd (show p∈([]:List (Addr×Obj)) from hp) (by simp),e0.hok.kept hk,?_⟩
 ·exact name_of_addr x.apart (Ii h1) (Ii h2)
 ·have hy:scope.names.lookup y=some .cell\/scope.names.lookup y=some .free:=hy;rcases hy with hy | hy
  ·exact lp hy
  ·exact absurd rfl (S.Az _ (Ii hy))
 ·exact Jg (x.above y c (Ii h))
 ·have hi:i < vs.length:=by
   unfold start at h2;by_cases hi:i < vs.length
   ·exact hi
   ·rw [Gj (by simpa using hi)] at h2;rw [List.getElem?_replicate] at h2;split at h2 <;> cases h2
  have ha:vs[i]?=some v:=by
   unfold start at h2;rw [Gz (by simpa using hi),GB] at h2;cases e:vs[i]? with
   | none=>rw [e] at h2;cases h2
   | some a=>rw [e] at h2;cases h2;rfl
  obtain ⟨u,hu,rv⟩:=r.get ha;have hp:ps[i]?=some y:=by
   rw [<- S.pre,List.getElem?_take_of_lt (by omega)];exact h1
  have ndP:ps.Nodup:=by rw [<- S.pre];exact S.nd.sublist (List.take_sublist _ _)
  refine ⟨u,rv,?_⟩;rcases S.par y (Gx hp) with k | k
  ·exact .inl ⟨k,jJ ndP hp hu k⟩
  ·obtain ⟨c,e⟩:=lp (n:=s.heap.objs.size+1) k;refine .inr ⟨.inl k,c,e,?_⟩;have q:=x.cell y c e;rw [jv ndP hp hu (by show scope.names.lookup y≠_;rw [k];decide)] at q;exact q
 ·exact e0.hok.fresh (Jg (x.above y c (Ii h)))
 ·unfold start;show _=N.length;rw [Gf,Gg,JH];omega
theorem C6 {CX:CXT} {P:Program} {w:World} {K:Fg} {mg:Str->Option Value} {base:Heap} {k:Nat} {f:Addr} {name qual:Str} {params:Arguments} {body:List Stmt} {scope:Scope} {dV kV doc pm cdv ct oc:Value} {an od:Option Addr}
  {osl:Array (Option Value)} {N ps:List Str} {sp:Sp} (lk:K.lookup f=some ⟨oc,od,.func (PySem.W.fnOf name qual params body scope dV kV doc pm an cdv ct),osl⟩) (hcd:PySem.W.codeIn K cdv qual=true) (S:aq N ps scope)
  (len:∀ vs H Q E,sp vs H Q E->vs.length=ps.length)
  (hbody:∀ (A:Around) (outer:List Env) (s:Shared) (H:Hp) (vs:List V) (Q:VK) (E:XK),eD k (A.deeper (envOfC qual scope s.heap.objs.size f cdv))->sp vs H Q E ->
   ∃ t,PSs (sJ CX P w K mg base N qual scope f cdv A outer s H E) body t/\t { nx:=fun _ H'=>Q .non H',rt:=Q } (start N vs) H) :
  bN P w K mg base CX (k+1) f (PySem.W.fnOf name qual params body scope dV kV doc pm an cdv ct) ps sp:=by
 refine ⟨len,fun A outer s H args us vs Q E hr e0 hb r hsp=>?_⟩;have hl:=len _ _ _ _ hsp;have KX:K.In s.heap:=e0.mod.kin.keeps fun b o e=>(e0.bs b o e).1;have lim:s.heap.NoLimit:=e0.mod.nolimit.keeps fun b o e=>(e0.bs b o e).1;have hkind:∀ y∈ps.zip us,scope.names.lookup y.1=some .local\/(scope.names.lookup y.1=some .cell/\((cellsFrom (s.heap.objs.size+1) scope.names []).lookup y.1).isSome=true):=fun ⟨n,v⟩ hy=>by
  rcases S.par n (List.of_mem_zip hy).1 with q | q
  ·exact .inl q
  ·exact .inr ⟨q,PySem.W.cellsFrom_some _ _ _ (.inl q)⟩
 refine codeAny_call_function hr.depth (KX _ _ lk) rfl S.co S.gen rfl (PySem.W.codeRec_of KX hcd) (hb _ _ _ _ ?_);refine wpAny_newFunctionEnv_cells S.kind hkind fun env he s1 x=>?_;subst he;refine ⟨lim.keeps x.toInCall.keep,codeAny_func ?_⟩;obtain ⟨t,ht,hq⟩:=hbody A outer s H vs Q E (hr.deeper _) hsp;have I:Inv (sJ CX P w K mg base N qual scope f cdv A outer s H E) [] (start N vs) H s1:=pL S hr.hd e0 hl r x;refine Hg (ht [] s1 (start N vs) H _ I hq) (fun fl s' hs=>?_) fun e s' hs=>hs;have fin:∀ {σ':St} {H':Hp} {v:V} {u:Value},Inv (sJ CX P w K mg base N qual scope f cdv A outer s H E) [] σ' H' s'->RelV v u->Q v H'->CE outer P w H s Q u s' :=
  fun {σ' H' v u} J rv q=>⟨v,H',J.os,J.bare,J.base,J.hok,rv,q⟩
 cases fl with
 | ret u =>
  obtain ⟨v,σ',H',J,rv,q⟩:=hs;exact fin J rv q
 | next =>
  obtain ⟨σ',H',J,q⟩:=hs;exact fin (v:=V.non) (u:=Value.none) J rfl q
 | brk =>
  obtain ⟨_,_,_,q⟩:=hs;exact False.elim q
 | cont =>
  obtain ⟨_,_,_,q⟩:=hs;exact False.elim q
end L2
namespace L2
open PySem PySem.Spec PyProof.Rows
section
variable {X:Cx} {x:Str} {p pos:Pos} {e:Expr} {es:List Expr} {t:TA} {id T:String} {r:List V->Hp->VK->Prop}
def tCB (r:List V->Hp->VK->Prop) (t:TA):TE:=fun σ H Q=>t σ H fun vs H1=>r vs H1 Q
theorem rq (hc:az X (.builtin id) r) (hg:Gl X x) (hm:X.mg x=none) (hv:bootBuiltins x=some (.builtin id)) (ha:PA X (e :: es) t) (hn:x ≠ "__name__" := by decide) (hdb:(x==("__debug__" : Str))=false:=by decide)
  (he:starEach (e :: es) X.env=(false,eval e X.env) :: starEach es X.env:=by rfl) (hpl:(backTo pos (starEach es X.env)).any (·.1)=false:=by rfl):PE X (.Call (.Name x p) (e :: es) [] pos) (tCB r t):=by
 intro pins s σ H Q I h;refine wpAny_Call_Name_kw (qw I hg hm hv ?_ hn hdb);exact PyProof.Rows.callWith_builtin1 (thn (ha pos pins s σ H _ I h) fun us s1 ⟨vs,H1,I1,r1,q1⟩=>hc pins s1 σ H1 vs us Q I1 r1 q1) he hpl
theorem qG (hc:az X (.type T) r) (hg:Gl X x) (hm:X.mg x=none) (hv:bootBuiltins x=some (.type T)) (ha:PA X (e :: es) t) (hn:x ≠ "__name__" := by decide) (hdb:(x==("__debug__" : Str))=false:=by decide)
  (he:starEach (e :: es) X.env=(false,eval e X.env) :: starEach es X.env:=by rfl) (hpl:(backTo pos (starEach es X.env)).any (·.1)=false:=by rfl):PE X (.Call (.Name x p) (e :: es) [] pos) (tCB r t):=by
 intro pins s σ H Q I h;refine wpAny_Call_Name_kw (qw I hg hm hv ?_ hn hdb);exact PyProof.Rows.callWith_type1 (thn (ha pos pins s σ H _ I h) fun us s1 ⟨vs,H1,I1,r1,q1⟩=>hc pins s1 σ H1 vs us Q I1 r1 q1) he hpl
end
end L2
namespace HT
open PySem PyProof.Rows
section
variable {prog:Program} {w:World} {A:Around} {E:Value->Shared->Prop} {s:Shared}
theorem vM {t b:Addr} {vs ws:List Value} {Q:Value->Shared->Prop} (ht:IsTup s.heap t vs.toArray) (hb:IsTup s.heap b ws.toArray) (hv:vs≠[])
  (h1:ws=[]->Q (.ref t) s) (h2:ws≠[]->Q (.ref s.heap.objs.size) { s with heap:=s.heap.push { cls:=.type "tuple", data:=.seq (vs++ws).toArray } })
  (hsz:vs.length+ws.length<=sizeLine):wpAny (model prog w) A (binaryOp .Add (.ref t) (.ref b)) Q E s:=by
 obtain ⟨⟨cls,dd,data,sl⟩,ho,hc,n,hd⟩:=id ht;obtain ⟨⟨cls2,dd2,data2,sl2⟩,ho2,hc2,n2,hd2⟩:=id hb;simp only at hc hd hc2 hd2;subst hc hd hc2 hd2;have e:vs.toArray++ws.toArray=(vs++ws).toArray:=by simp
 by_cases hw:ws=[]
 ·exact concat_meets ⟨_,ho,rfl⟩ ⟨_,ho2,rfl⟩ noFill_tuple_add seq_tuple_add PySem.F.slot_tuple_add PySem.F.entry_tuple_add (PySem.F.args_tuple_add_2 _ _)
   (tuple_addW1 t b vs.toArray ws.toArray n n2 dd dd2 sl sl2 (by simpa using hv) (by simp [hw])) ⟨ho,ho2,h1 hw⟩
 ·refine concat_meets ⟨_,ho,rfl⟩ ⟨_,ho2,rfl⟩ noFill_tuple_add seq_tuple_add PySem.F.slot_tuple_add PySem.F.entry_tuple_add (PySem.F.args_tuple_add_2 _ _)
   (tuple_addW2 t b vs.toArray ws.toArray n n2 dd dd2 sl sl2 (by simpa using hv) (by simpa using hw) (by rw [Gw,Gw];exact hsz)) ⟨ho,ho2,?_⟩
  rw [e];exact h2 hw
noncomputable def sIx (n d:Nat):Option Int->Nat
 | none=>d
 | some v=>if v < 0 then (v+(n:Int)).toNat else min v.toNat n
theorem l5 (n d:Nat) (hd:d<=n) (o:Option Int):sIx n d o<=n:=by
 cases o with
 | none=>exact hd
 | some v =>
  show (if v < 0 then (v+(n:Int)).toNat else min v.toNat n)<=n;by_cases hv:v < 0
  ·rw [Gs hv];omega
  ·rw [Gy hv];exact Nat.min_le_right _ _
theorem nS (v:Int) (n d:Nat):(if v < 0 then max (v+(n:Int)) 0 else min v (n:Int))=((sIx n d (some v):Nat):Int):=by
 show (if v < 0 then max (v+(n:Int)) 0 else min v (n:Int))=(((if v < 0 then (v+(n:Int)).toNat else min v.toNat n):Nat):Int);by_cases hv:v < 0
 ·simp only [Gs hv];omega
 ·simp only [Gy hv];omega
theorem mK (lo hi:Option Int) (n:Nat):Builtin.Slice.sliceAdjust lo hi 1 (n:Int)=(((sIx n 0 lo:Nat):Int),((sIx n n hi:Nat):Int)):=by
 have h1:¬((1:Int) < 0):=by omega
 unfold Builtin.Slice.sliceAdjust;simp only [h1,HP];refine Prod.ext ?_ ?_
 ·cases lo with
  | none=>rfl
  | some v=>exact nS v n 0
 ·cases hi with
  | none=>rfl
  | some v=>exact nS v n n
theorem m7 (i j:Nat):Builtin.Slice.slicePlaces (i:Int) (j:Int) 1=j - i:=by
 unfold Builtin.Slice.slicePlaces;have h1:(1:Int) > 0:=by omega
 simp only [h1,Im,Int.ediv_one];split <;> omega
theorem hG {v:Value} {o:Option Int} {Q:Option Int->Shared->Prop} (p:IsPart v o) (h:Q o s):wpAny (model prog w) A (Builtin.Slice.slicePartIndex v) Q E s:=by
 cases p with
 | none=>exact slicePart_none h
 | int i t=>exact slicePart_int h
theorem fF {sl:Addr} {vl vu:Value} {lo hi:Option Int} {n:Nat} {Q:Int×Int×Nat->Shared->Prop} (hs:s.heap.IsSliceOf sl vl vu .none) (pl:IsPart vl lo) (pu:IsPart vu hi)
  (h:Q (((sIx n 0 lo:Nat):Int),1,sIx n n hi - sIx n 0 lo) s):wpAny (model prog w) A (Builtin.Slice.sliceApplied (.ref sl) (pure (n:Int))) Q E s:=by
 obtain ⟨os,hos,hcs,hds⟩:=id hs;unfold Builtin.Slice.sliceApplied Builtin.Slice.sliceFields;refine Ge (Ge (wpAny_field hos hds (x:=vl) rfl (Ge (wpAny_field hos hds (x:=vu) rfl (Ge (wpAny_field hos hds (x:=.none) rfl (Gi ?_)))))));refine Ge (slicePart_none ?_);show wpAny _ _ (if ((1:Int)==0)=true then _ else _) _ _ s;rw [Gy (by decide)];refine Ge (hG pl (Ge (hG pu (Ge (Gi ?_)))));show wpAny _ _ (match Builtin.Slice.sliceAdjust lo hi 1 (n:Int) with | (lo,hi)=>pure (lo,(1:Int),Builtin.Slice.slicePlaces lo hi 1)) _ _ s;rw [mK lo hi n];show wpAny _ _ (pure (((sIx n 0 lo:Nat):Int),(1:Int),Builtin.Slice.slicePlaces ((sIx n 0 lo:Nat):Int) ((sIx n n hi:Nat):Int) 1)) _ _ s;rw [m7];exact Gi h
theorem tJ (xs:Array Value) (i k:Nat):((List.range k).filterMap fun (m:Nat)=>xs[((i:Int)+(m:Int)*1).toNat]?).toArray=((xs.toList.drop i).take k).toArray:=by
 have e:(fun (m:Nat)=>xs[((i:Int)+(m:Int)*1).toNat]?)=fun m=>xs[i+m]?:=by
  funext m;have:((i:Int)+(m:Int)*1).toNat=i+m:=by omega
  rw [this]
 rw [e];have:=pick_run xs i k;rw [List.filterMap_map] at this;have e2:((fun x=>xs[x]?)∘fun x=>i+x)=fun m=>xs[i+m]?:=rfl;rw [e2] at this;rw [this]
theorem eQ {t sl:Addr} {items:Array Value} {vl vu:Value} {lo hi:Option Int} {Q:Value->Shared->Prop} (ht:IsTup s.heap t items) (hs:s.heap.IsSliceOf sl vl vu .none) (pl:IsPart vl lo) (pu:IsPart vu hi)
  (hw:¬(sIx items.size 0 lo=0/\sIx items.size items.size hi=items.size))
  (h:Q (.ref s.heap.objs.size) { s with heap:=s.heap.push { cls:=.type "tuple", data:=.seq ((items.toList.drop (sIx items.size 0 lo)).take (sIx items.size items.size hi - sIx items.size 0 lo)).toArray } })
  (hsz:items.size<=sizeLine):wpAny (model prog w) A (getItem (.ref t) (.ref sl)) Q E s:=by
 have htake:sizeOk (.seq ((items.toList.drop (sIx items.size 0 lo)).take (sIx items.size items.size hi - sIx items.size 0 lo)).toArray):=by
  show ((items.toList.drop (sIx items.size 0 lo)).take (sIx items.size items.size hi - sIx items.size 0 lo)).toArray.size<=sizeLine;rw [Gw,GX,HC,GN];omega
 have hj:sIx items.size items.size hi<=items.size:=l5 _ _ (Gu _) hi;obtain ⟨os,hos,hcs,hds⟩:=id hs;have hTs:s.TypeIs (.ref sl) "slice" := ⟨os,hos,hcs⟩;unfold getItem;try with_reducible refine Hv ?_
 first | refine Ge (Gi ?_) | skip
 refine Ge (wpAny_sequenceKey ht.typeIs (by decide) ?_)
 refine Ge (wpAny_callSpecial?_slot (name:=Str.ofString "__getitem__") ht.typeIs PyProof.Rows.slot_tuple_getitem
  (H9 PyProof.Rows.slot_tuple_getitem ht.typeIs entry_tuple_getitem ?_ (args_tuple_getitem _ _)))
 show wpAny _ _ (Builtin.Tuple.tupleItemsOf (.ref t)>>=_) _ _ s;refine Ge (tupleItemsOf_ ht ?_);refine Ge (Jv hTs ?_);rw [Gs (by decide)];refine Ge (fF hs pl pu ?_);have hno:¬((((sIx items.size 0 lo:Nat):Int)==0&&(1:Int)==1&&(sIx items.size items.size hi - sIx items.size 0 lo)==items.size)=true):=by
  intro q;rw [GY,GY] at q;have q1:((sIx items.size 0 lo:Nat):Int)=0:=eq_of_beq q.1.1;have q2:sIx items.size items.size hi - sIx items.size 0 lo=items.size:=eq_of_beq q.2;exact hw ⟨by omega,by omega⟩
 show wpAny _ _ (if (((sIx items.size 0 lo:Nat):Int)==0&&(1:Int)==1&&(sIx items.size items.size hi - sIx items.size 0 lo)==items.size)=true then _ else _) _ _ s;rw [Gy hno,tJ];first
  | exact Ge (m:=Builtin.Tuple.tupleExact _) (HA (Gi ⟨_,rfl,Gi h⟩) htake)
  | exact Ge (m:=Builtin.Tuple.tupleExact _) (HA (Ge (Gi (Gi ⟨_,rfl,Gi h⟩))) htake)
  | exact Ge (Ge (m:=Builtin.Tuple.tupleExact _) (HA (Gi (Gi ⟨_,rfl,Gi h⟩)) htake))
  | exact Ge (Ge (m:=Builtin.Tuple.tupleExact _) (HA (Gi ⟨_,rfl,Gi h⟩) htake))
end
end HT
namespace L2
open PySem PySem.Spec PyProof.Rows
abbrev TO:=St->Hp->(Option Int->Hp->Prop)->Prop
def PO (X:Cx) (e:Option Expr) (t:TO):Prop :=
 ∀ (pins:List (Addr×Obj)) (s:Shared) (σ:St) (H:Hp) (Q:Option Int->Hp->Prop),Inv X pins σ H s->t σ H Q ->
  wpAny (model X.prog X.w) X.A (evalPart e X.env) (fun u s'=>∃ o H',Inv X pins σ H' s'/\IsPart u o/\Q o H') X.xe s
def qa:TO:=fun _ H Q=>Q none H
def Ae (t:TE):TO:=fun σ H Q=>t σ H fun x H1=>∃ i,x=.int i/\Q (some i) H1
section
variable {X:Cx} {e:Expr} {te:TE} {lo hi:Option Expr} {tl th:TO} {pos p2:Pos}
theorem wa:PO X none qa:=by
 intro pins s σ H Q I h;rw [evalPart_none];exact Gi ⟨none,H,I,.none,h⟩
theorem wq (h:PE X e te):PO X (some e) (Ae te):=by
 intro pins s σ H Q I hw;rw [evalPart_some];refine thn (h pins s σ H _ I hw) fun u s1 ⟨x,H1,I1,r1,q1⟩=>?_;obtain ⟨i,rfl,q⟩:=q1;obtain ⟨t,rfl⟩:=r1;exact ⟨some i,H1,I1,.int i t,q⟩
def SlR (X:Cx) (r:V->Option Int->Option Int->Hp->VK->Prop):Prop :=
 ∀ (pins:List (Addr×Obj)) (s:Shared) (σ:St) (H:Hp) (x:V) (v vl vu:Value) (lo hi:Option Int) (sl:Addr) (Q:VK),Inv X pins σ H s->RelV x v->s.heap.IsSliceOf sl vl vu .none->IsPart vl lo->IsPart vu hi->r x lo hi H Q ->
  ∃ T id,typeLookup (.type T) "__getitem__" = pure (some (.builtin id))/\s.TypeIs v T/\wpAny (model X.prog X.w) X.A (getItem v (.ref sl)) (EP X pins σ Q) X.xe s
theorem SlR.or {r r':V->Option Int->Option Int->Hp->VK->Prop} (h:SlR X r) (h':SlR X r'):SlR X (fun x lo hi H Q=>r x lo hi H Q\/r' x lo hi H Q):=by
 intro pins s σ H x v vl vu lo hi sl Q I rx hs pl pu q;rcases q with q | q
 ·exact h pins s σ H x v vl vu lo hi sl Q I rx hs pl pu q
 ·exact h' pins s σ H x v vl vu lo hi sl Q I rx hs pl pu q
def tSl (r:V->Option Int->Option Int->Hp->VK->Prop) (te:TE) (tl th:TO):TE:=fun σ H Q=>te σ H fun x H1=>tl σ H1 fun l H2=>th σ H2 fun u H3=>r x l u H3 Q
theorem r8 {r:V->Option Int->Option Int->Hp->VK->Prop} (hr:SlR X r) (he:PE X e te) (hl:PO X lo tl) (hu:PO X hi th):PE X (.Subscript e (.Slice lo hi none p2) pos) (tSl r te tl th):=by
 intro pins s σ H Q I h;refine Subscript_ (thn (he pins s σ H _ I h) fun v s1 ⟨x,H1,I1,r1,q1⟩=>?_);refine wpAny_Slice (thn (hl pins s1 σ H1 _ I1 q1) fun vl s2 ⟨l,H2,I2,pl,q2⟩=>thn (hu pins s2 σ H2 _ I2 q2) fun vu s3 ⟨u,H3,I3,pu,q3⟩=>?_);rw [evalPart_none];refine Gi ?_;have I4:Inv X pins σ H3 { s3 with heap:=s3.heap.push { cls:=.type "slice", data:=.fields #[vl,vu,.none] } }:=I3.kept (t':=s3.toks) fun b ob q=>Gq _ q;obtain ⟨T,id,hT,ht,hg⟩:=hr pins { s3 with heap:=s3.heap.push { cls:=.type "slice", data:=.fields #[vl,vu,.none] } } σ H3 x v vl vu l u s3.heap.objs.size Q I4 r1 (Heap.IsSliceOf.new ..) pl pu q3;show wpAny (model X.prog X.w) X.A (subscriptTail e (.Slice lo hi none p2) v (.ref s3.heap.objs.size)) (EP X pins σ Q) X.xe { s3 with heap:=s3.heap.push { cls:=.type "slice", data:=.fields #[vl,vu,.none] } };exact tail_any (ops:=[.ref s3.heap.objs.size,v]) ht hT hg (by with_unfolding_all rfl)
noncomputable def qV (xs:List V) (lo hi:Option Int):List V:=(xs.drop (HT.sIx xs.length 0 lo)).take (HT.sIx xs.length xs.length hi - HT.sIx xs.length 0 lo)
theorem gO (xs:List V) (lo hi:Option Int):(qV xs lo hi).length<=xs.length:=by
 unfold qV;rw [GX,HC];omega
def EO (K:Fg):V->Option Int->Option Int->Hp->VK->Prop:=fun x lo hi H Q=>∃ a xs,x=.ref a/\SqT K H a xs /\
 ¬(HT.sIx xs.length 0 lo=0/\HT.sIx xs.length xs.length hi=xs.length)/\∀ p,H p=none->Q (.ref p) (upd H p (.tup (qV xs lo hi)))
theorem pJ:SlR X (EO X.K):=by
 intro pins s σ H x v vl vu lo hi sl Q I rx hs pl pu h;obtain ⟨a,xs,rfl,hx,hw,q⟩:=h;cases rx;obtain ⟨its,r,ht,hz⟩:=I.tuple hx;have hlen:its.toArray.size=xs.length:=by rw [Gw];exact r.length.symm
 refine ⟨"tuple", _,PyProof.Rows.slot_tuple_getitem.lookup,ht.typeIs,?_⟩;refine HT.eQ ht hs pl pu (by rw [hlen];exact hw) ?_ (by rw [hlen];exact hz);rw [hlen];refine ⟨.ref s.heap.objs.size,_,I.laid (t':=s.toks) (o:=.tup (qV xs lo hi)) (fun b ob q=>Gq _ q) (Gu _) ?_,rfl,q _ (I.hok.fresh (Gu _))⟩;exact ⟨GU (gO xs lo hi) hz,_,(r.drop (HT.sIx xs.length 0 lo)).take (HT.sIx xs.length xs.length hi - HT.sIx xs.length 0 lo),IsTup.new _ _⟩
def xS (K:Fg):R2:=fun x y H Q=>∃ a b xs ys,x=.ref a/\y=.ref b/\SqT K H a xs/\SqT K H b ys/\xs≠[]/\xs.length+ys.length<=sizeLine /\
 (ys=[]->Q (.ref a) H)/\(ys≠[]->∀ p,H p=none->Q (.ref p) (upd H p (.tup (xs++ys))))
theorem Vals.k7 {xs:List V} {us:List Value} (r:Vals xs us):us=[]↔xs=[]:=by
 cases r with
 | nil=>simp
 | cons _ _=>simp
theorem vq:OpR X (binaryOp .Add) (xS X.K):=by
 intro pins s σ H x y v u Q I rx ry h;obtain ⟨a,b,xs,ys,rfl,rfl,ha,hb,hx,hz,q1,q2⟩:=h;cases rx;cases ry;obtain ⟨its,r1,p1,_⟩:=I.tuple ha;obtain ⟨its2,r2,p2,_⟩:=I.tuple hb;refine HT.vM p1 p2 (fun z=>hx (r1.k7.mp z)) (fun z=>⟨.ref a,H,I,rfl,q1 (r2.k7.mp z)⟩) (fun z=>?_) (by rw [<- r1.length,<-r2.length];exact hz);refine ⟨.ref s.heap.objs.size,_,I.laid (t':=s.toks) (o:=.tup (xs++ys)) (fun b ob q=>Gq _ q) (Gu _) ?_,rfl,q2 (fun w=>z (r2.k7.mpr w)) _ (I.hok.fresh (Gu _))⟩;exact ⟨by rw [Gf];exact hz,_,r1.append r2,IsTup.new _ _⟩
end
end L2
namespace L2
open PySem PySem.Spec PyProof.Rows
noncomputable def ixN (n:Nat) (i:Int):Option Nat:=if 0<=i then (if i < n then some i.toNat else none) else if -(n:Int)<=i then some (i+n).toNat else none
noncomputable def atI {α:Type} (xs:List α) (i:Int):Option α:=(ixN xs.length i).bind fun j=>xs[j]?
theorem oT {n:Nat} {i:Int} {j:Nat} (h:ixN n i=some j):seqIndex? i n=some j/\j < n/\-(n:Int)<=i/\i < n:=by
 unfold ixN at h;by_cases h0:0<=i
 ·rw [Gs h0] at h;by_cases h1:i < n
  ·rw [Gs h1] at h;have e:i.toNat=j:=Hr h;exact ⟨by rw [seqIndex_of h0 h1,e],by omega,by omega,h1⟩
  ·rw [Gy h1] at h;cases h
 ·rw [Gy h0] at h;by_cases h1:-(n:Int)<=i
  ·rw [Gs h1] at h;have e:(i+n).toNat=j:=Hr h;exact ⟨by rw [seqIndex_neg (by omega) h1,e],by omega,h1,by omega⟩
  ·rw [Gy h1] at h;cases h
theorem k8 {α:Type} {xs:List α} {i:Int} {v:α} (h:atI xs i=some v):∃ j,seqIndex? i xs.length=some j/\xs[j]?=some v/\j < xs.length/\-(xs.length:Int)<=i/\i < xs.length:=by
 unfold atI at h;cases e:ixN xs.length i with
 | none=>rw [e] at h;cases h
 | some j =>
  rw [e] at h;obtain ⟨h1,h2,h3,h4⟩:=oT e;exact ⟨j,h1,h,h2,h3,h4⟩
theorem kL {α:Type} {xs:List α} {j:Nat} {v:α} (h:xs[j]?=some v):atI xs (j:Int)=some v:=by
 have hj:j < xs.length:=(Gh.mp h).1;have e:ixN xs.length (j:Int)=some j:=by
  unfold ixN;rw [Gs (by omega),Gs (by omega)];simp
 unfold atI;rw [e];exact h
def kI (b:Expr):Prop:=∀ o i,subscripted b false o i=operate [o,i] (getItem o i)
def IxR (X:Cx) (r:R2):Prop :=
 ∀ (value slice:Expr) (pins:List (Addr×Obj)) (s:Shared) (σ:St) (H:Hp) (x y:V) (v u:Value) (Q:VK),Inv X pins σ H s->RelV x v->RelV y u->r x y H Q ->
  subscripted slice false v u=operate [v,u] (getItem v u)->wpAny (model X.prog X.w) X.A (subscriptTail value slice v u) (EP X pins σ Q) X.xe s
def MtR (X:Cx) (id:String) (r:V->List V->Hp->VK->Prop):Prop :=
 ∀ (pins:List (Addr×Obj)) (s:Shared) (σ:St) (H:Hp) (x:V) (xs:List V) (v:Value) (us:List Value) (Q:VK),Inv X pins σ H s->RelV x v->Vals xs us->r x xs H Q ->
  wpAny (model X.prog X.w) X.A (call (.builtin id) (v :: us)) (EP X pins σ Q) X.xe s
section
variable {X:Cx} {a b:Expr} {ta tb:TE} {pos:Pos}
theorem IxR.or {r r':R2} (h:IxR X r) (h':IxR X r'):IxR X (fun x y H Q=>r x y H Q\/r' x y H Q):=by
 intro value slice pins s σ H x y v u Q I rx ry q hs;rcases q with q | q
 ·exact h value slice pins s σ H x y v u Q I rx ry q hs
 ·exact h' value slice pins s σ H x y v u Q I rx ry q hs
theorem D4 {r:R2} (hr:IxR X r) (ha:PE X a ta) (hb:PE X b tb) (hs:kI b):PE X (.Subscript a b pos) (tOp r ta tb):=by
 intro pins s σ H Q I h;exact Subscript_ (El ha hb I h fun v u s2 x y H2 I2 rx ry q=>hr a b pins s2 σ H2 x y v u Q I2 rx ry q (hs _ _))
def Ez (K:Fg):R2:=fun x y H Q=>∃ p xs i v,x=.ref p/\y=.int i/\SqL K H p xs/\atI xs i=some v/\Q v H
def Er (K:Fg):R2:=fun x y H Q=>∃ p xs i v,x=.ref p/\y=.int i/\SqT K H p xs/\atI xs i=some v/\Q v H
def EC:R2:=fun x y H Q=>∃ z i c,x=.str z/\y=.int i/\z.length<=sizeLine/\atI z.cps.toList i=some c/\Q (.str ⟨#[c]⟩) H
theorem w8:IxR X (Ez X.K):=by
 intro value slice pins s σ H x y v u Q I rx ry h hs;obtain ⟨p,xs,i,z,rfl,rfl,hq,he,q⟩:=h;cases rx;obtain ⟨t,rfl⟩:=ry;obtain ⟨its,r,pl,hz⟩:=I.list hq;obtain ⟨j,h1,h2,h3,h4,h5⟩:=k8 he;obtain ⟨w,ew,rw'⟩:=r.get h2;have hl:=r.length;have hn:=ig;have fin:EP X pins σ Q w s:=⟨z,H,I,rw',q⟩;by_cases h0:0<=i
 ·have hj:i.toNat=j:=by
   rw [seqIndex_of h0 h5] at h1;exact Hr h1
  exact item_listR pl.isList h0 (by omega) (by rw [hj];simpa using ew) fin hs
 ·have hj:(i+(its.toArray.size:Int)).toNat=j:=by
   rw [seqIndex_neg (by omega) h4] at h1;rw [Gw,<-hl];exact Hr h1
  exact subscriptTail_builtinR (x:=w) pl.isList.typeIs slot_list_getitem.lookup
   (wpAny_getItem_list_neg (Q:=fun r s'=>r=w/\EP X pins σ Q r s') pl.isList (by omega) (by rw [Gw] <;> omega) (by omega) (by rw [hj];simpa using ew) ⟨rfl,fin⟩) hs
theorem As:IxR X (Er X.K):=by
 intro value slice pins s σ H x y v u Q I rx ry h hs;obtain ⟨p,xs,i,z,rfl,rfl,hq,he,q⟩:=h;cases rx;obtain ⟨t,rfl⟩:=ry;obtain ⟨its,r,pl,hz⟩:=I.tuple hq;obtain ⟨j,h1,h2,h3,h4,h5⟩:=k8 he;obtain ⟨w,ew,rw'⟩:=r.get h2;have hl:=r.length;have hn:=ig;have fin:EP X pins σ Q w s:=⟨z,H,I,rw',q⟩;exact subscriptTail_builtinR (x:=w) pl.typeIs slot_tuple_getitem.lookup
  (getItem_tuple (j:=j) (Q:=fun r s'=>r=w/\EP X pins σ Q r s') pl (by omega) (by omega) (by rw [Gw,<-hl];exact h1) (by simpa using ew) ⟨rfl,fin⟩) hs
theorem ze:IxR X EC:=by
 intro value slice pins s σ H x y v u Q I rx ry h hs;obtain ⟨z,i,c,rfl,rfl,hz,he,q⟩:=h;obtain ⟨t,rfl⟩:=rx;obtain ⟨t',rfl⟩:=ry;obtain ⟨j,h1,h2,h3,h4,h5⟩:=k8 he;have hl:z.cps.toList.length=z.length:=by simp [Str.length]
 rw [hl] at h1 h4 h5;have hn:=ig
 exact tail_any (typeIs_str s z t) slot_str_getitem.lookup (getItem_str (c:=c) (by
  have e1:decide (i < -(2 ^ 63:Int))=false:=Ie (by omega);have e2:decide (i>=2 ^ 63)=false:=Ie (by omega)
  rw [e1,e2,Bool.or_false]) (by rw [h1];simpa using h2) ⟨.str ⟨#[c]⟩,H,I.tok _,⟨_,rfl⟩,q⟩) hs
def rIx (K:Fg):R2:=fun x y H Q=>Ez K x y H Q\/Er K x y H Q\/EC x y H Q
theorem zO:IxR X (rIx X.K):=w8.or (As.or ze)
theorem mZ (its:List Value) (n j:Nat) (u:Value):Obj.mapSeq (·.setIfInBounds j u) { cls:=.type "list", data:=.seq its.toArray n }={ cls:=.type "list", data:=.seq (its.set j u).toArray n }:=by
 simp [Obj.mapSeq]
theorem Inv.lst {pins:List (Addr×Obj)} {σ:St} {H:Hp} {s:Shared} {p:Addr} {xs:List V} (I:Inv X pins σ H s) (h:H p=some (.lst xs)) :
  ∃ (its:List Value) (n:Nat),Vals xs its/\s.heap.get? p=some { cls:=.type "list", data:=.seq its.toArray n }/\xs.length<=sizeLine:=by
 obtain ⟨z,its,n,r,e⟩:=I.hok p _ h;exact ⟨its,n,r,e,z⟩
theorem Inv.zS {pins:List (Addr×Obj)} {σ:St} {H:Hp} {s:Shared} {p:Addr} {xs ys:List V} {its its':List Value} {n n':Nat} {f:Obj->Obj} (I:Inv X pins σ H s) (h:H p=some (.lst xs))
  (ho:s.heap.get? p=some { cls:=.type "list", data:=.seq its.toArray n }) (hf:f { cls:=.type "list", data:=.seq its.toArray n }={ cls:=.type "list", data:=.seq its'.toArray n' }) (r:Vals ys its') (hz:ys.length<=sizeLine) (t:Nat) :
  Inv X pins σ (upd H p (.lst ys)) { s with heap:=s.heap.update p f,toks:=t }:=by
 have e:(s.heap.update p f).get? p=some { cls:=.type "list", data:=.seq its'.toArray n' }:=by
  rw [HU f ho (by rw [hf] <;> rfl),hf]
 refine I.write (x:=p) (e:=p) (by rw [h];trivial) (.inl rfl) (fun b u hb q=>(H0 _ _ (Ne.symm hb)).trans q) ⟨_,e⟩ ?_;exact ⟨hz,its',n',r,e⟩
def yF:V->V->V->Hp->(Hp->Prop)->Prop:=fun o i v H Q=>∃ p xs k j,o=.ref p/\i=.int k/\H p=some (.lst xs)/\ixN xs.length k=some j/\Q (upd H p (.lst (xs.set j v)))
theorem set_list:DC X yF:=by
 intro pins s σ H o i v ov iv u Q I ro ri rv h;obtain ⟨p,xs,k,j,rfl,rfl,hp,hj,q⟩:=h;cases ro;obtain ⟨t,rfl⟩:=ri;obtain ⟨its,n,r,ho,hz⟩:=I.lst hp;obtain ⟨h1,h2,h3,h4⟩:=oT hj;have hl:=r.length;have hn:=ig;have I':Inv X pins σ (upd H p (.lst (xs.set j v))) { s with heap:=s.heap.update p (Obj.mapSeq (·.setIfInBounds j u)) } :=
  I.zS hp ho (mZ its n j u) (r.set rv j) (by rw [Ha];exact hz) s.toks
 by_cases h0:0<=k
 ·have hk:k.toNat=j:=by
   rw [seqIndex_of h0 h4] at h1;exact Hr h1
  exact PySem.W.ki_setAt ho h0 (by omega) (by rw [Gw,<-hl];exact h4) (by rw [hk];exact ⟨_,I',q⟩)
 ·have hk:(k+(its.toArray.size:Int)).toNat=j:=by
   rw [seqIndex_neg (by omega) h3] at h1;rw [Gw,<-hl];exact Hr h1
  exact PySem.W.ki_setBack ho (by omega) (by rw [Gw,<-hl];exact h3) (by omega) (by rw [hk];exact ⟨_,I',q⟩)
theorem jB (lo hi:Option Int) (n:Nat):(sliceBounds lo hi none n).1=((HT.sIx n 0 lo:Nat):Int)/\(sliceBounds lo hi none n).2.1=((HT.sIx n n hi:Nat):Int)/\(sliceBounds lo hi none n).2.2=1:=by
 refine ⟨?_,?_,rfl⟩
 ·cases lo with
  | none=>simp [sliceBounds,HT.sIx]
  | some i =>
   simp only [sliceBounds,HT.sIx,Option.getD_none,show (1:Int) > 0 by decide,Im];by_cases h:i < 0
   ·simp only [h,Im] <;> omega
   ·simp only [h,HP] <;> omega
 ·cases hi with
  | none=>simp [sliceBounds,HT.sIx]
  | some i =>
   simp only [sliceBounds,HT.sIx,Option.getD_none,show (1:Int) > 0 by decide,Im];by_cases h:i < 0
   ·simp only [h,Im] <;> omega
   ·simp only [h,HP] <;> omega
theorem iR (its:List Value) (lo hi:Option Int):slicePick its.toArray lo hi none=((its.drop (HT.sIx its.length 0 lo)).take (HT.sIx its.length its.length hi - HT.sIx its.length 0 lo)).toArray:=by
 obtain ⟨h1,h2,h3⟩:=jB lo hi its.toArray.size;unfold slicePick;rw [h1,h2,h3];simp only [sliceRange_one,pick_run,Gw] <;> rfl
def Ex (K:Fg):V->Option Int->Option Int->Hp->VK->Prop:=fun x lo hi H Q=>∃ a xs,x=.ref a/\SqL K H a xs/\∀ p,H p=none->Q (.ref p) (upd H p (.lst (qV xs lo hi)))
theorem kO:SlR X (Ex X.K):=by
 intro pins s σ H x v vl vu lo hi sl Q I rx hs pl pu h;obtain ⟨a,xs,rfl,hx,q⟩:=h;cases rx;obtain ⟨its,r,ht,hz⟩:=I.list hx;have hlen:=r.length;refine ⟨"list", _,slot_list_getitem.lookup,ht.isList.typeIs,?_⟩;refine wpAny_getItem_list_slice ht.isList hs pl pu .none (by simp) ?_ (by rw [Gw] <;> omega);rw [iR,<-hlen];refine ⟨.ref s.heap.objs.size,_,I.laid (t':=s.toks) (o:=.lst (qV xs lo hi)) (fun b ob q=>Gq _ q) (Gu _) ?_,rfl,q _ (I.hok.fresh (Gu _))⟩;exact ⟨GU (gO xs lo hi) hz,_,0,(r.drop (HT.sIx xs.length 0 lo)).take (HT.sIx xs.length xs.length hi - HT.sIx xs.length 0 lo),GR _ rfl⟩
theorem jE:az X (.type "list") (fun xs H Q=>∃ p ys,xs=[.ref p]/\(SqL X.K H p ys\/SqT X.K H p ys)/\∀ l,H l=none->Q (.ref l) (upd H l (.lst ys))):=by
 intro pins s σ H xs us Q I r h;obtain ⟨p,ys,rfl,hq,q⟩:=h;obtain ⟨u,rfl,rx⟩:=vals1 r;cases rx;have fin:∀ (its:List Value),Vals ys its->ys.length<=sizeLine->∀ (h':Heap) (c':Nat),(∀ b o',s.heap.get? b=some o'->h'.get? b=some o') ->
   h'.get? s.heap.objs.size=some { cls:=.type "list", dict:=none,data:=.seq its.toArray c',slots:=#[] }->EP X pins σ Q (.ref s.heap.objs.size) { s with heap:=h' }:=fun its r' hz h' c' kp e =>
  ⟨.ref s.heap.objs.size,_,I.laid (t':=s.toks) kp (Gu _) (show df X.prog X.w _ h' _ (.lst ys) from ⟨hz,its,c',r',e⟩),rfl,q _ (I.hok.fresh (Gu _))⟩
 rcases hq with hq | hq
 ·obtain ⟨its,r',pl,hz⟩:=I.list hq;have hlen:=r'.length;obtain ⟨o,ho,hc,n,hd⟩:=pl.isList;exact call_list_seq p (.inl rfl) ho hc hd (fun h' c' kp e=>fin its r' hz h' c' kp e) (by simp only [Gw] <;> omega)
 ·obtain ⟨its,r',pl,hz⟩:=I.tuple hq;have hlen:=r'.length;obtain ⟨o,ho,hc,n,hd⟩:=pl;exact call_list_seq p (.inr rfl) ho hc hd (fun h' c' kp e=>fin its r' hz h' c' kp e) (by simp only [Gw] <;> omega)
theorem iS:az X (.type "tuple") (fun xs H Q=>∃ p ys,xs=[.ref p]/\((SqL X.K H p ys/\∀ l,H l=none->Q (.ref l) (upd H l (.tup ys)))\/(SqT X.K H p ys/\Q (.ref p) H))):=by
 intro pins s σ H xs us Q I r h;obtain ⟨p,ys,rfl,h⟩:=h;obtain ⟨u,rfl,rx⟩:=vals1 r;cases rx;rcases h with ⟨hq,q⟩ | ⟨hq,q⟩
 ·obtain ⟨its,r',pl,hz⟩:=I.list hq;have hlen:=r'.length;refine call_tuple_list pl.isList (fun h' kp=>?_) (by simp only [Gw] <;> omega);have I1:Inv X pins σ H { s with heap:=h' }:=I.kept (t':=s.toks) kp;have I2:Inv X pins σ (upd H h'.objs.size (.tup ys)) { s with heap:=h'.push { cls:=.type "tuple", data:=.seq its.toArray } } :=
   I1.laid (t':=s.toks) (fun b o e=>Gq _ e) (Gu _) (show df X.prog X.w _ _ _ (.tup ys) from ⟨hz,its,r',IsTup.new _ _⟩)
  exact ⟨.ref h'.objs.size,_,I2,rfl,q _ (I1.hok.fresh (Gu _))⟩
 ·obtain ⟨its,r',pl,hz⟩:=I.tuple hq;exact call_tuple_same pl ⟨.ref p,H,I,rfl,q⟩
def tyV (K:Fg) (T:String) (x:V) (H:Hp):Prop:=match x with
 | .str _=>T = "str"
 | .int _=>T = "int"
 | .ref p=>(T = "list" /\ ∃ xs,SqL K H p xs)\/(T = "tuple" /\ ∃ o,K.lookup p=some o/\o.cls=.type "tuple" /\ o.dict=none) \/
   (T = "dict" /\ ((∃ kvs,H p=some (.dK kvs))\/(∃ kvs,H p=some (.dT kvs))\/∃ ep xs,H p=some (.dD ep xs)))\/(T = "set" /\ ∃ S n,H p=some (.set S n))
 | _=>False
theorem AJ {pins:List (Addr×Obj)} {σ:St} {H:Hp} {s:Shared} {T:String} {x:V} {v:Value} (I:Inv X pins σ H s) (r:RelV x v) (ty:tyV X.K T x H) :
  s.TypeIs v T/\∀ a,v=.ref a->∃ ob,s.heap.get? a=some ob/\ob.dict=none:=by
 cases x with
 | str z =>
  obtain ⟨t,rfl⟩:=r;cases (show T = "str" from ty);exact ⟨typeIs_str s z t,fun _ e=>nomatch e⟩
 | int i =>
  obtain ⟨t,rfl⟩:=r;cases (show T = "int" from ty);exact ⟨typeIs_int s i t,fun _ e=>nomatch e⟩
 | ref p =>
  cases r;rcases ty with ⟨rfl,xs,hq⟩ | ⟨rfl,o,hk,hc,hd⟩ | ⟨rfl,hk⟩ | ⟨rfl,S,n,hk⟩
  ·obtain ⟨its,_,pl,_⟩:=I.list hq;refine ⟨pl.isList.typeIs,fun a e=>?_⟩;cases e;obtain ⟨o,n,e,c,hd,_⟩:=pl;exact ⟨o,e,hd⟩
  ·refine ⟨⟨o,I.kIn p o hk,hc⟩,fun a e=>?_⟩;cases e;exact ⟨o,I.kIn _ o hk,hd⟩
  ·have z:∃ o,s.heap.get? p=some o/\o.ExactDict:=by
    rcases hk with ⟨kvs,hk⟩ | ⟨kvs,hk⟩ | ⟨ep,xs,hk⟩
    ·obtain ⟨_,_,_,_,o,_,_,e,ex,_⟩:=I.hok p _ hk;exact ⟨o,e,ex⟩
    ·obtain ⟨_,_,_,_,o,_,_,e,ex,_⟩:=I.hok p _ hk;exact ⟨o,e,ex⟩
    ·obtain ⟨_,_,_,o,_,e,ex,_⟩:=I.hok p _ hk;exact ⟨o,e,ex⟩
   obtain ⟨o,e,ex⟩:=z;refine ⟨⟨o,e,ex.1⟩,fun a e2=>?_⟩;cases e2;exact ⟨o,e,ex.2.1⟩
  ·obtain ⟨o,_,_,_,e,ex,_⟩:=I.hok p _ hk;refine ⟨⟨o,e,ex.1⟩,fun a e2=>?_⟩;cases e2;exact ⟨o,e,ex.2.1⟩
 | _=>exact False.elim ty
def tBM (K:Fg) (T:String) (r:V->List V->Hp->VK->Prop) (to:TE) (t:TA):TE:=fun σ H Q=>to σ H fun x H1=>tyV K T x H1/\t σ H1 fun xs H2=>r x xs H2 Q
variable {o e:Expr} {es:List Expr} {to:TE} {t:TA} {name:Str} {apos cpos:Pos} {T id:String} {r:V->List V->Hp->VK->Prop}
theorem BM (pa:PlainAttrs T) (slot:Slot T name id) (hty:typeOf (.builtin id)=pure (.type "method_descriptor")) (hm:MtR X id r) (ho:PE X o to) (ha:PA X (e :: es) t)
  (hbase:attributeBase o name X.env (eval o X.env)=eval o X.env:=by rfl)
  (hfew:((backTo cpos (starEach (e :: es) X.env)).all (fun x=>!x.1)&&(backToKw cpos (keywordEach [] X.env)).all (fun x=>x.1.isSome)
   && decide ((e :: es).length+([]:List Keyword).length+(if ([]:List Keyword).isEmpty then 0 else 1) < 30))=true:=by rfl)
  (hline:(apos.endLine==cpos.line)=true:=by rfl) (hs:starEach (e :: es) X.env=(false,eval e X.env) :: starEach es X.env:=by rfl) (hplain:(backTo cpos (starEach es X.env)).any (·.1)=false:=by rfl) :
  PE X (.Call (.Attribute o name apos) (e :: es) [] cpos) (tBM X.K T r to t):=by
 intro pins s σ H Q I h;refine wpAny_Call_method_late hbase hfew hline rfl (thn (ho pins s σ H _ I h) fun v s1 ⟨x,H1,I1,r1,ty,q1⟩=>?_);obtain ⟨h1,h2⟩:=AJ I1 r1 ty;refine ⟨T,id,pa,slot,hty,h1,h2,?_⟩;have hA:=ha cpos pins s1 σ H1 _ I1 q1;rw [hs] at hA ⊢;refine Calls.callWith_builtin (by show (false||(backTo cpos (starEach es X.env)).any (·.1))=false;rw [hplain] <;> rfl) (Calls.evalArgs_plain ?_);exact thn hA fun us s2 ⟨vs,H2,I2,r2,q2⟩=>hm pins s2 σ H2 x vs v us Q I2 r1 r2 q2
end
end L2
namespace L2
open PySem PySem.Spec PyProof.Rows
def MtM (X:Cx) (id:String) (r:V->List V->Hp->VK->Prop):Prop :=
 ∀ (pins:List (Addr×Obj)) (s:Shared) (σ:St) (H:Hp) (x:V) (xs:List V) (v:Value) (us:List Value) (Q:VK),Inv X pins σ H s->RelV x v->Vals xs us->r x xs H Q ->
  wpAny (model X.prog X.w) X.A (call (.builtin id) (v :: us)) (EP X pins σ Q) X.xe s
theorem Vals.one:∀ {x:V} {us:List Value},Vals [x] us->∃ u,us=[u]/\RelV x u
 | _,_,.cons r .nil=>⟨_,rfl,r⟩
theorem Vals.dropLast {xs:List V} {us:List Value} (h:Vals xs us):Vals xs.dropLast us.dropLast:=by
 induction h with
 | nil=>exact .nil
 | cons r t ih =>
  cases t with
  | nil=>exact .nil
  | cons q t'=>exact .cons r ih
section
variable {X:Cx} {pins:List (Addr×Obj)} {σ:St} {H:Hp} {s:Shared} {l b:Addr} {xs ys zs:List V}
theorem Inv.Cu {its its':List Value} {n:Nat} {f:Array Value->Array Value} {t':Nat} (I:Inv X pins σ H s) (hH:H l=some (.lst xs))
  (e:s.heap.get? l=some { cls:=.type "list", data:=.seq its.toArray n }) (hf:f its.toArray=its'.toArray) (hv:Vals ys its') (hz:ys.length<=sizeLine) :
  Inv X pins σ (upd H l (.lst ys)) { s with heap:=s.heap.update l (Obj.mapSeq f),toks:=t' }:=by
 have q:=PySem.IsL.update e f;rw [hf] at q;refine I.write (x:=l) (e:=l) (by rw [hH];exact trivial) (.inl rfl) (fun b' u hb hu=>(H0 s.heap (Obj.mapSeq f) (Ne.symm hb)).trans hu) ⟨_,q⟩ ?_;exact ⟨hz,its',_,hv,q⟩
theorem Inv.FY {its:List Value} {t':Nat} (I:Inv X pins σ H s) (hv:Vals ys its) (hz:ys.length<=sizeLine) :
  Inv X pins σ (upd H s.heap.objs.size (.lst ys)) { s with heap:=s.heap.push { cls:=.type "list", data:=.seq its.toArray },toks:=t' } :=
 I.laid (fun _ _ q=>Gq _ q) (Gu _) ⟨hz,its,0,hv,GR _ rfl⟩
theorem Inv.fresh (I:Inv X pins σ H s):H s.heap.objs.size=none:=I.hok.fresh (Gu _)
theorem Inv.Di (I:Inv X pins σ H s) (hH:H l=some (.lst xs)):xs.length<=sizeLine/\∃ (its:List Value) (n:Nat),Vals xs its/\xs.length=its.length/\s.heap.get? l=some { cls:=.type "list", data:=.seq its.toArray n }:=by
 obtain ⟨z,its,n,r,e⟩:=I.hok l _ hH;exact ⟨z,its,n,r,r.length,e⟩
theorem sM {n:Nat} (h:n<=sizeLine):Builtin.List.listTooLong n=false:=by
 unfold Builtin.List.listTooLong;exact Ie (by omega)
end
section
variable {X:Cx}
def pj:V->List V->Hp->VK->Prop:=fun x vs H Q=>∃ l xs y,x=.ref l/\vs=[y]/\H l=some (.lst xs)/\xs.length < sizeLine/\Q .non (upd H l (.lst (xs++[y])))
theorem d8:MtM X "list.append" pj:=by
 intro pins s σ H x vs v us Q I rx rv h;obtain ⟨l,xs,y,rfl,rfl,hH,hz,q⟩:=h;cases rx;obtain ⟨u,rfl,ru⟩:=rv.one;obtain ⟨z,its,n,r,hl,e⟩:=I.Di hH;refine call_meets F.slot_list_append ⟨_,e,rfl⟩ F.entry_list_append (F.args_list_append_2 _ _) (PySem.list_append l its.toArray n u (by rw [Gw];omega)) ⟨e,?_⟩;refine ⟨.non,_,I.Cu (its':=its++[u]) hH e (by simp) (r.append (.cons ru .nil)) ?_,rfl,q⟩;rw [Gf,JD];omega
end
end L2
namespace L2
open PySem PySem.Spec PyProof.Rows
section
variable {κ:Type} [DecidableEq κ]
noncomputable def putK (kvs:List (κ×V)) (k:κ) (v:V):List (κ×V) :=
 if (kvs.any fun kv=>decide (kv.1=k))=true then kvs.map (fun kv=>if kv.1=k then (kv.1,v) else kv) else kvs++[(k,v)]
end
def EL (i:Expr):Prop:=∀ ov iv,subscripted i false ov iv=operate [ov,iv] (getItem ov iv)
theorem wO {prog:Program} {w:World} {A:Around} {E:Value->Shared->Prop} {s:Shared} {env:Env} {value slice:Expr} {pos:Pos} {T id:String} {Q:Value->Shared->Prop}
  (hl:typeLookup (.type T) "__getitem__" = pure (some (.builtin id))) (hs:EL slice)
  (h:wpAny (model prog w) A (eval value env) (fun o s₁=>wpAny (model prog w) A (eval slice env) (fun i s₂=>s₂.TypeIs o T/\wpAny (model prog w) A (getItem o i) Q E s₂) E s₁) E s) :
  wpAny (model prog w) A (eval (.Subscript value slice pos) env) Q E s:=by
 refine Subscript_ (Hg h (fun o s₁ h₁=>Hg h₁ (fun i s₂ h₂=>?_) fun _ _ x=>x) fun _ _ x=>x);obtain ⟨hT,h₂⟩:=h₂;unfold subscriptTail;refine Ge ?_;rw [getitemInPython_of_ne hT.not_modules];refine Ge (Io hT hl ?_);have fin:wpAny (model prog w) A (subscripted slice false o i) (fun r s₃=>wpAny (model prog w) A (letTemporaryGo value o r>>=fun _=>pure r) Q E s₃) E s₂:=by
  rw [hs o i];exact wpAny_operating (Hg h₂ (fun r s₃ h₃=>Ge (wpAny_letTemporaryGo (Gi h₃))) fun _ _ x=>x)
 first
  | exact Gi (Ge fin)
  | exact Ge (Gi (Ge fin))
  | exact Ge fin
def o5:List (TE×TE)->St->Hp->(List (V×V)->Hp->Prop)->Prop
 | [],_,H,Q=>Q [] H
 | (tk,tv) :: r,σ,H,Q=>tk σ H fun x H1=>tv σ H1 fun y H2=>o5 r σ H2 fun ps H3=>Q ((x,y) :: ps) H3
noncomputable def iq (kvs more:List (Key×V)):List (Key×V):=more.foldl (fun acc kv=>putK acc kv.1 kv.2) kvs
end L2
namespace Att
open PySem PySem.W PySem.Calls PyProof.Rows
theorem gz {P:Params} {h:Heap}:∀ (ns:List Int) (vs:List Value),WellAll P h vs (ns.map WData.int)->IntsAre vs ns:=by
 intro ns;induction ns with
 | nil =>
  intro vs w;rw [List.map_nil] at w;cases w;exact .nil
 | cons n ns ih =>
  intro vs w;rw [List.map_cons] at w;cases w with
  | cons a b =>
   cases a;exact .cons _ _ (ih _ b)
theorem pY {l:OpenLaw} {n:Nat} (hn:l.most=some n) {P:Params} {h:Heap} {args:List WData} {vals:List Value}
  (hpre:l.row.toRowW.claim.pre args=true) (hwl:WellAll P h vals args) :
  ∃ a vs ns,vals=[Value.ref a]/\args=[WData.list (ns.map WData.int)]/\h.get? a=some { cls:=.type "list", data:=.seq vs.toArray }/\IntsAre vs ns/\ns.length<=n:=by
 have hsh:WShape.hasAll [] args [.list .int]=true:=(pre_splitW hpre).1;have hc:l.pre.holds [] { args:=args }=true:=(pre_splitW hpre).2;obtain ⟨d,r,rfl,h1,h2⟩:=hasAllW_cons hsh;obtain rfl:=hasAllW_nil h2;obtain ⟨xs,rfl,h3⟩:=hasW_list h1;obtain ⟨ns,rfl⟩:=items_int h3;have hlen:ns.length<=n:=by
  unfold OpenLaw.pre at hc;have h4:(WTm.not (.lt (.lit (.int (n:Int))) (.len (.arg 0)))).holds [] { args:=[.list (ns.map .int)] }=true:=by
   have h4:=(holds_andW hc).1;rw [hn] at h4;exact h4
  have h5:=condW_of h4 (w_not (w_lt w_lit (w_len_list (w_arg rfl))));rw [Gg] at h5;refine Nat.le_of_not_lt fun q=>?_;have q':(n:Int) < ((ns.length:Nat):Int):=by omega
  first
   | (rw [Iy q'] at h5;exact absurd h5 (by decide))
   | (simp at h5;omega)
 cases hwl with
 | cons w1 w2 =>
  cases w2;cases w1 with
  | list ho hall=>exact ⟨_,_,ns,rfl,rfl,ho,gz ns _ hall,hlen⟩
theorem oP (l:OpenLaw) (args:List WData):l.row.toRowW.claim.post args (.bool true) args=true :=
 postW_of (r:=l.row.toRowW) (X:=(true==true))
  (show WShape.has [] (.bool true) .bool=true by first | rfl | decide | simp [WShape.has,WShape.arms,WShape.armsAll])
  (show (WTm.eq .res (.lit (.bool true))).value [] { args:=args,res:=some (.bool true),after:=args }=some (.bool (true==true)) from w_eq_bool (w_res rfl) w_lit) rfl
theorem lg {l:OpenLaw} {n:Nat} {q:Program} {loose:List Str} {XP:(Str->Option Value)->Heap->Prop} {YP:World->Heap->Prop} {d:DefRec}
  (hn:l.most=some n) (hdf:d.params.defaults=[])
  (call:∀ (w:World) (s₀ s₁:Shared) (mg mb:Str->Option Value) (fa:Addr) (o:Obj) (pm cd doc:Value) (a:Addr) (vs:List Value) (ns:List Int),
   Ground q loose [] XP w s₀ mg mb s₁.heap->YP w s₁.heap ->
   s₁.heap.get? fa=some o->o.data=.func (docDef d.name d.params d.body d.scope pm cd doc)->s₁.heap.CodeRec cd d.name->mg d.name=some (.ref fa) ->
   s₁.heap.get? a=some { cls:=.type "list", data:=.seq vs.toArray }->IntsAre vs ns->ns.length<=n->s₁.gens=#[] ->
   codeAny (model l.prog w) callerA (.call (.ref fa) ⟨[.ref a],[]⟩) (fun r s'=>r=.ok (.ret (.bool true))/\OldK s₁.heap s'.heap/\s'.os=s₁.os/\AllBare s'.gens) s₁) :
  WalkO q loose XP YP l.row.toRowW d [] (fun f vs=>PySem.call f vs):=by
 intro w s₀ s₁ mg mb G Y fa o pm cd doc dV kV ho hd hcd hD hmg hg args vals as hpre hlay hrd hwl hlo;obtain rfl:dV=.none:=Dflts.none hD hdf;obtain rfl:kV=.none:=Dflts.noKw hD;obtain ⟨a,vs,ns,rfl,rfl,hobj,hints,hlen⟩:=pY hn hpre hwl;refine enter_call (Jf (call w s₀ s₁ mg mb fa o pm cd doc a vs ns G Y ho (fd_plain hd) hcd hmg hobj hints hlen hg) fun r s' hq=>?_);obtain ⟨rfl,h2,h3,h4⟩:=hq;exact ⟨.inl ⟨.bool true,.bool true,[],rfl,fun _=>rfl,.bool true,oP l _,fun _=>⟨List.Pairwise.nil,fun _ hm=>(nomatch hm)⟩⟩,h2,h3,h4⟩
end Att
namespace L2
open PySem PySem.Spec PyProof.Rows
theorem jW:∀ {vs:List Value} {ns:List Int},IntsAre vs ns->Vals (ns.map V.int) vs
 | _,_,.nil=>.nil
 | _,_,.cons n t h=>.cons ⟨t,rfl⟩ (jW h)
def Bm (H:Hp):Prop:=∀ b,H b=none\/∃ o xs,H b=some (.frz o (.lst xs))
theorem rJ {P:Program} {w:World} {K:Fg} {mg mb:Str->Option Value} {CX:CXT} {k:Nat} {fa a:Addr} {fd:FuncData} {x:Str} {sp:Sp} {s₁:Shared} {vs:List Value} {ns:List Int}
  (KX:K.In s₁.heap) (hns:s₁.heap.Ns mainGlobals mg) (hb:s₁.heap.Ns builtinsNs mb) (hbb:∀ x:Str,x ≠ "__name__" -> mb x=bootBuiltins x) (hlim:s₁.heap.NoLimit) (hg:s₁.gens=#[])
  (ha:s₁.heap.get? a=some { cls:=.type "list", data:=.seq vs.toArray }) (hi:IntsAre vs ns) (hl:ns.length<=sizeLine) (hr:eD k callerA)
  (F:∀ base:Heap,K.In base->base.Ns mainGlobals mg->bN P w K mg base CX k fa fd [x] sp) (hbind:∀ (s:Shared) (u:Value),BindsTo s fd ⟨[u],[]⟩ [(x,u)])
  (hsp:∀ H:Hp,Bm H->SqL K H a (ns.map V.int)->sp [.ref a] H (fun v _=>v=.bl true) fun _ _ _=>False)
  (hCX:∀ H e s',CX [] H s₁ (fun _ _ _=>False) e s'->False) :
  codeAny (model P w) callerA (.call (.ref fa) ⟨[.ref a],[]⟩) (fun r s'=>r=.ok (.ret (.bool true))/\OldK s₁.heap s'.heap/\s'.os=s₁.os/\AllBare s'.gens) s₁:=by
 have rv:=jW hi;have lenV:=hi.length;have core:∀ H:Hp,Bm H->SqL K H a (ns.map V.int)->HOk P w H s₁.heap->(∀ b,H b≠none->b=a)->(H a≠none->K.lookup a=none) ->
   codeAny (model P w) callerA (.call (.ref fa) ⟨[.ref a],[]⟩) (fun r s'=>r=.ok (.ret (.bool true))/\OldK s₁.heap s'.heap/\s'.os=s₁.os/\AllBare s'.gens) s₁:=by
  intro H hO hS hok hA hK;have base_of:∀ {b:Addr} {o:Obj},s₁.heap.get? b=some o->H b=none->(sO s₁.heap H).get? b=some o:=fun e n=>rM e n;have noA:∀ {b:Addr} {o:Obj} {es:Array DictEntry} {ep:Nat},s₁.heap.get? b=some o->o.data=.dict es ep->H b=none:=fun {b o es ep} e d=>by
   cases q:H b with
   | none=>rfl
   | some u =>
    have e':b=a:=hA b (by rw [q];simp);subst e';rw [ha] at e;cases e;have d':Data.seq vs.toArray _=Data.dict es ep:=d;cases d'
  have nsK:∀ {b:Addr} {m:Str->Option Value},s₁.heap.Ns b m->(sO s₁.heap H).Ns b m:=fun {b m} ⟨o,es,ep,e,d,r⟩=>⟨o,es,ep,base_of e (noA e d),d,r⟩
  have hKb:K.In (sO s₁.heap H):=fun b o e=>base_of (KX b o e) (by
   cases q:H b with
   | none=>rfl
   | some u =>
    have e':b=a:=hA b (by rw [q];simp);subst e'
    rw [hK (by rw [q];simp)] at e;cases e)
  have hM:Mod K mg (sO s₁.heap H):=⟨hKb,nsK hns,⟨mb,nsK hb,hbb⟩,let ⟨mc,h1,h2⟩:=hlim;⟨mc,nsK h1,h2⟩⟩;have e0:Bt P w K mg (sO s₁.heap H) callerA [] s₁ H:=⟨rfl,hM,fun b o e=>vQ e,Nat.le_of_eq (oa _ _),trivial,fun b hb=>absurd (show b∈([]:List Addr) from hb) (by simp),hok,.of_eq hg⟩;refine Jf ((F _ hKb (nsK hns)).run callerA [] s₁ H ⟨[.ref a],[]⟩ [.ref a] [.ref a] _ _ hr e0 (hbind s₁ (.ref a)) (.cons rfl .nil) (hsp H hO hS)) fun r s' h=>?_;cases r with
  | error e=>exact (hCX H e s' h).elim
  | ok fl =>
   cases fl with
   | next=>exact False.elim h
   | brk=>exact False.elim h
   | cont=>exact False.elim h
   | ret u =>
    obtain ⟨v,H',os,bare,un,hok',r',q⟩:=h;have q':v=.bl true:=q;subst q';obtain rfl:u=Value.bool true:=r';refine ⟨rfl,OldK.of_keep fun b o e=>?_,os,bare⟩;cases q:H b with
    | none=>exact un.keep b o e q (by intro z;exact absurd (show b∈([]:List Addr) from z) (by simp)) (by simp)
    | some u =>
     rcases hO b with z | ⟨ob,xs,z⟩
     ·rw [q] at z;cases z
     ·have z2:=un.mV b ob _ z;obtain ⟨e1,_⟩:=hok b _ z;obtain ⟨e2,_⟩:=hok' b _ z2;rw [e] at e1;cases e1;exact e2
 cases hk:K.lookup a with
 | some o =>
  have e:=KX a o hk;rw [ha] at e;cases e;refine core (fun _=>none) (fun _=>.inl rfl) (.inr ⟨_,vs.toArray,_,hk,rfl,rfl,rfl,by rw [Gw,lenV];exact hl,by simpa using rv⟩) (fun b u z=>by have z':(none:Option HO)=some u:=z;cases z') (fun b z=>absurd rfl z) fun z=>absurd rfl z
 | none =>
  refine core (fun b=>if b=a then some (.frz { cls:=.type "list", data:=.seq vs.toArray } (.lst (ns.map V.int))) else none) (fun b=>?_) (.inl (.inr ⟨{ cls:=.type "list", data:=.seq vs.toArray },Gs rfl⟩)) (fun b u z=>?_) (fun b z=>?_) fun _=>hk
  ·by_cases hb:b=a
   ·exact .inr ⟨_,_,Gs hb⟩
   ·exact .inl (Gy hb)
  ·by_cases hb:b=a
   ·have z':=(Gs hb).symm.trans z;cases z';subst hb;exact ⟨ha,by rw [Gg];exact hl,vs,_,rv,ha⟩
   ·have z':=(Gy hb).symm.trans z;cases z'
  ·by_cases hb:b=a
   ·exact hb
   ·exact absurd (Gy hb) z
end L2
namespace L2
open PySem PySem.Spec PyProof.Rows
abbrev KOf {K:Fg} {h:Heap} (_:K.In h):Fg:=K
theorem vF {l:PySem.W.OpenLaw} {n k:Nat} {q:Program} {loose:List Str} {XP:(Str->Option Value)->Heap->Prop} {YP:World->Heap->Prop} {d:DefRec} {K:Params->Fg} {CX:World->CXT} {sp:World->Sp} {x:Str}
  (hn:l.most=some n) (hn2:n<=sizeLine) (hdf:d.params.defaults=[]) (hr:eD k callerA)
  (hY:∀ (w:World) (h:Heap),YP w h->(K w.params).In h)
  (F:∀ (w:World) (mg:Str->Option Value) (fa:Addr) (h:Heap),(K w.params).In h->h.Ns mainGlobals mg->mg d.name=some (.ref fa) ->
   ∃ fd:FuncData,(∀ (s:Shared) (u:Value),BindsTo s fd ⟨[u],[]⟩ [(x,u)]) /\
    ∀ base:Heap,(K w.params).In base->base.Ns mainGlobals mg->bN l.prog w (K w.params) mg base (CX w) k fa fd [x] (sp w))
  (hsp:∀ (w:World) (H:Hp) (a:Addr) (ns:List Int),ns.length<=n->Bm H->SqL (K w.params) H a (ns.map V.int)->sp w [.ref a] H (fun v _=>v=.bl true) fun _ _ _=>False)
  (hCX:∀ (w:World) (H:Hp) (s:Shared) (e:Value) (s':Shared),CX w [] H s (fun _ _ _=>False) e s'->False) :
  PySem.W.WalkO q loose XP YP l.row.toRowW d [] (fun f vs=>PySem.call f vs):=by
 refine Att.lg hn hdf fun w s₀ s₁ mg mb fa o pm cd doc a vs ns G Y ho hd hcd hmg hobj hints hlen hg=>?_;have KX:=hY w _ Y;obtain ⟨fd,hb,hF⟩:=F w mg fa _ KX G.T.g hmg;exact rJ KX G.T.g G.T.b G.T.builtins G.T.nolimit hg hobj hints (GU hlen hn2) hr hF hb (fun H hO hS=>hsp w H a ns hlen hO hS) fun H e s'=>hCX w H s₁ e s'
theorem rz {l:PySem.W.OpenLaw} {n k:Nat} {q:Program} {loose:List Str} {XP:(Str->Option Value)->Heap->Prop} {YP:World->Heap->Prop} {d:DefRec} {K:Params->Fg} {CX:CXT} {sp:Fg->Sp} {x:Str}
  (hn:l.most=some n) (hn2:n<=sizeLine) (hdf:d.params.defaults=[]) (hr:eD k callerA)
  (hY:∀ (w:World) (h:Heap),YP w h->(K w.params).In h)
  (F:∀ (w:World) (mg:Str->Option Value) (fa:Addr) (h:Heap),(K w.params).In h->h.Ns mainGlobals mg->mg d.name=some (.ref fa) ->
   ∃ fd:FuncData,(∀ (s:Shared) (u:Value),BindsTo s fd ⟨[u],[]⟩ [(x,u)]) /\
    ∀ base:Heap,(K w.params).In base->base.Ns mainGlobals mg->bN l.prog w (K w.params) mg base CX k fa fd [x] (sp (K w.params)))
  (hsp:∀ (K:Fg) (H:Hp) (a:Addr) (ns:List Int),ns.length<=n->Bm H->SqL K H a (ns.map V.int)->sp K [.ref a] H (fun v _=>v=.bl true) fun _ _ _=>False)
  (hCX:∀ (H:Hp) (s:Shared) (e:Value) (s':Shared),CX [] H s (fun _ _ _=>False) e s'->False) :
  PySem.W.WalkO q loose XP YP l.row.toRowW d [] (fun f vs=>PySem.call f vs) :=
 vF (K:=K) (CX:=fun _=>CX) (sp:=fun w=>sp (K w.params)) hn hn2 hdf hr hY F (fun w H a ns h1 h2 h3=>hsp (K w.params) H a ns h1 h2 h3) fun _ H s e s'=>hCX H s e s'
end L2
namespace L2
open PySem PySem.Spec PyProof.Rows
noncomputable def gQ (s:Stmt):Arguments:=match s with
 | .FunctionDef _ a _ _ _ _ _ _ _ _=>a
 | _=>{ posonlyargs:=[],args:=[],vararg:=none,kwonlyargs:=[],kw_defaults:=[],kwarg:=none,defaults:=[] }
noncomputable def cp (s:Stmt):List Stmt:=match s with
 | .FunctionDef _ _ b _ _ _ _ _ _ _=>b
 | _=>[]
noncomputable def aa (s:Stmt):Scope:=match s with
 | .FunctionDef _ _ _ _ _ _ sc _ _ _=>sc
 | _=>{ kind:=.function,names:=[],isGenerator:=false,isCoroutine:=false }
abbrev CX0:CXT:=fun _ _ _ _ _ _=>False
abbrev E0:XK:=fun _ _ _=>False
theorem yX {X:Cx}:Passes CX0 X E0:=fun _ _ _ _ _ _ _ h=>h.elim
structure Fun (K:Fg) (x qual:Str) (st:Stmt) (f:Addr) (fd:FuncData):Prop where
 ex:∃ (oc:Value) (od:Option Addr) (kV doc pm:Value) (an:Option Addr) (cdv ct:Value) (osl:Array (Option Value)),
  fd=PySem.W.fnOf x qual (gQ st) (cp st) (aa st) .none kV doc pm an cdv ct/\K.lookup f=some ⟨oc,od,.func fd,osl⟩/\PySem.W.codeIn K cdv qual=true
 kp:PySem.W.keepIn K (.ref f)=true
section
variable {P:Program} {w:World} {K:Fg} {mg:Str->Option Value} {base:Heap}
theorem Fun.ok {x qual:Str} {st:Stmt} {f:Addr} {fd:FuncData} {N ps:List Str} {k:Nat} {sp:Sp} (F:Fun K x qual st f fd) (S:aq N ps (aa st)) (len:∀ vs H Q E,sp vs H Q E->vs.length=ps.length)
  (hbody:∀ (cdv:Value) (A:Around) (outer:List Env) (s:Shared) (H:Hp) (vs:List V) (Q:VK) (E:XK),eD k (A.deeper (envOfC qual (aa st) s.heap.objs.size f cdv))->sp vs H Q E ->
   ∃ t,PSs (sJ CX0 P w K mg base N qual (aa st) f cdv A outer s H E).nox (cp st) t/\t { nx:=fun _ H'=>Q .non H',rt:=Q } (start N vs) H):bN P w K mg base CX0 (k+1) f fd ps sp:=by
 obtain ⟨oc,od,kV,doc,pm,an,cdv,ct,osl,rfl,lk,hcd⟩:=F.ex;refine C6 lk hcd S len fun A outer s H vs Q E hr hsp=>?_;obtain ⟨t,h,q⟩:=hbody cdv A outer s H vs Q E hr hsp;exact ⟨t,h.nox,q⟩
theorem yK {x qual:Str} {st:Stmt} {f:Addr} {oc:Value} {od an:Option Addr} {osl:Array (Option Value)} {kV doc pm cdv ct:Value} (l:K.lookup f=some ⟨oc,od,.func (PySem.W.fnOf x qual (gQ st) (cp st) (aa st) .none kV doc pm an cdv ct),osl⟩)
  (c:PySem.W.codeIn K cdv qual=true) (k:PySem.W.keepIn K (.ref f)=true):Fun K x qual st f (PySem.W.fnOf x qual (gQ st) (cp st) (aa st) .none kV doc pm an cdv ct):=⟨⟨oc,od,kV,doc,pm,an,cdv,ct,osl,rfl,l,c⟩,k⟩
end
section
variable {X:Cx}
theorem pv (i:Nat) {x:Str} {pos:Pos} (hN:X.N[i]?=some x:=by rfl) (hv:Vis X.env.scope x:=by first | exact Or.inl rfl | exact Or.inr (Or.inl rfl) | exact Or.inr (Or.inr rfl)) (hd:(x==("__debug__" : Str))=false:=by decide)
  (hcd:(x==("__classdict__" : Str))=false:=by decide):PE X (.Name x pos) (qZ i):=uj hN hv hd hcd
end
def ay (H H':Hp):Prop:=∀ b o,H b=some o->H' b=some o
theorem ay.trans {H H1 H2:Hp} (a:ay H H1) (b:ay H1 H2):ay H H2:=fun c o h=>b c o (a c o h)
theorem ay.free {H H':Hp} (e:ay H H') {l:Addr} (h:H' l=Option.none):H l=Option.none:=by
 cases q:H l with
 | none=>rfl
 | some o =>
  rw [e l o q] at h;cases h
noncomputable def jq (env:Env):List (Str×NameKind)->List (Str×Addr)->List (Str×Addr)
 | [],cs=>cs
 | (n,k) :: r,cs=>jq env r (if k==.free then (n,(env.cells.lookup n).getD 0) :: cs else cs)
theorem cM {env:Env}:∀ (ns:List (Str×NameKind)) (cs:List (Str×Addr)),(∀ y∈ns,y.2=.free->∃ c,env.cells.lookup y.1=some c) ->
  (forIn ns cs (fun (x:Str×NameKind) (r:List (Str×Addr))=>if (x.2==NameKind.free)=true then (cellOf env x.1>>=fun a=>pure (ForInStep.yield ((x.1,a) :: r)):Sem _) else pure (ForInStep.yield r)):Sem (List (Str×Addr)))=pure (jq env ns cs)
 | [],_,_=>rfl
 | (n,k) :: r,cs,h=>by
  rw [List.forIn_cons];by_cases hk:k=.free
  ·subst hk;obtain ⟨c,e⟩:=h (n,.free) Gm rfl;have e':env.cells.lookup n=some c:=e;have q:=cM (env:=env) r ((n,c) :: cs) fun y hy=>h y (Gp _ hy);have z:jq env ((n,NameKind.free) :: r) cs=jq env r ((n,c) :: cs):=by
    show jq env r (if (NameKind.free==NameKind.free)=true then (n,(env.cells.lookup n).getD 0) :: cs else cs)=_;rw [Gs (by decide),e'];rfl
   have k:cellOf env n=pure c:=by
    unfold cellOf;rw [e']
   rw [z,<-q];dsimp only;rw [Gs (by decide),k];rfl
  ·have hb:(k==NameKind.free)=false:=by simpa using hk
   have q:=cM (env:=env) r cs fun y hy=>h y (Gp _ hy);have z:jq env ((n,k) :: r) cs=jq env r cs:=by
    show jq env r (if (k==NameKind.free)=true then (n,(env.cells.lookup n).getD 0) :: cs else cs)=_;rw [hb,Gy GV]
   rw [z,<-q];dsimp only;rw [hb,Gy GV];rfl
theorem eM {scope:Scope} {env:Env} (h:∀ y∈scope.names,y.2=.free->∃ c,env.cells.lookup y.1=some c):closureFor scope env=pure (jq env scope.names []):=by
 have q:=cM (env:=env) scope.names [] h;unfold closureFor;show (forIn scope.names [] _>>=_:Sem _)=_;refine Eq.trans (congrArg (fun m:Sem (List (Str×Addr))=>m>>=fun r=>pure r) (Eq.trans ?_ q)) rfl;rfl
theorem i3 {env:Env}:∀ (ns:List (Str×NameKind)) (cs:List (Str×Addr)),(∀ y∈ns,y.2=.free->∃ c,env.cells.lookup y.1=some c)->(∀ y c,cs.lookup y=some c->env.cells.lookup y=some c) ->
  ∀ y c,(jq env ns cs).lookup y=some c->env.cells.lookup y=some c
 | [],_,_,g,y,c,e=>g y c e
 | (n,k) :: r,cs,h,g,y,c,e=>by
  refine i3 r _ (fun z hz=>h z (Gp _ hz)) (fun z d e'=>?_) y c e;by_cases hk:(k==NameKind.free)=true
  ·rw [Gs hk] at e';rw [Js] at e';obtain ⟨c',ec⟩:=h (n,k) Gm (by simpa using hk);have ec':env.cells.lookup n=some c':=ec;cases hz:z==n with
   | true =>
    rw [hz] at e';have hzn:z=n:=by simpa using hz
    subst hzn;rw [ec'] at e' ⊢;exact e'
   | false=>rw [hz] at e';exact g z d e'
  ·rw [Gy hk] at e';exact g z d e'
theorem jI {env:Env} {y:Str}:∀ (ns:List (Str×NameKind)) (cs:List (Str×Addr)),(∃ c,cs.lookup y=some c)->∃ c,(jq env ns cs).lookup y=some c
 | [],_,h=>h
 | (n,k) :: r,cs,h=>by
  refine jI r _ ?_;by_cases hk:(k==NameKind.free)=true
  ·rw [Gs hk,Js];cases y==n
   ·exact h
   ·exact ⟨_,rfl⟩
  ·rw [Gy hk];exact h
theorem ck {env:Env} {y:Str}:∀ (ns:List (Str×NameKind)) (cs:List (Str×Addr)),(y,NameKind.free)∈ns->∃ c,(jq env ns cs).lookup y=some c
 | [],_,h=>by simp at h
 | (n,k) :: r,cs,h=>by
  rcases Gv.mp h with e | h
  ·cases e;show ∃ c,(jq env r (if (NameKind.free==NameKind.free)=true then (y,(env.cells.lookup y).getD 0) :: cs else cs)).lookup y=some c;refine jI r _ ⟨(env.cells.lookup y).getD 0,?_⟩;rw [Gs (by decide),Js,HM]
  ·exact ck r _ h
theorem aN {env:Env} {y:Str} {k:NameKind}:∀ (ns:List (Str×NameKind)),
  (ns.map fun (n,k)=>if (k==NameKind.free&&env.scope.kind==.function&&env.kindOf n==some .cell) then (n,NameKind.cell) else (n,k)).lookup y=some k->(y,k)∈ns\/(k=.cell/\(y,NameKind.free)∈ns)
 | [],h=>by simp at h
 | (n,k') :: r,h=>by
  have ih:=fun q=>aN (env:=env) (y:=y) (k:=k) r q;rw [List.map_cons] at h;have h2:=h;have again:=fun q=>(ih q).elim (fun q=>Or.inl (Gp (n,k') q)) fun q=>(Or.inr ⟨q.1,Gp (n,k') q.2⟩:(y,k)∈(n,k') :: r\/(k=.cell/\(y,NameKind.free)∈(n,k') :: r));dsimp only at h2;clear h;by_cases hc:(k'==NameKind.free&&env.scope.kind==.function&&env.kindOf n==some .cell)=true
  ·rw [Gs hc,Js] at h2;cases hy:y==n with
   | true =>
    rw [hy] at h2;have e1:y=n:=by simpa using hy
    have hk:k'=.free:=by
     have:=hc;simp at this;exact this.1.1
    have e2:k=.cell:=(Hr h2).symm;exact .inr ⟨e2,by rw [e1,hk];exact Gm⟩
   | false=>rw [hy] at h2;exact again h2
  ·rw [Gy hc,Js] at h2;cases hy:y==n with
   | true =>
    rw [hy] at h2;have e1:y=n:=by simpa using hy
    have e2:k'=k:=Hr h2;exact .inl (by rw [e1,e2];exact Gm)
   | false=>rw [hy] at h2;exact again h2
noncomputable def cxB (X:Cx) (N':List Str) (scope:Scope) (C:Addr) (s3:Shared) (H3:Hp) (ex:List Addr):Cx :=
  { prog:=X.prog,w:=X.w,K:=X.K,mg:=X.mg,base:=X.base,A:=X.A,N:=N',s₀:=s3,H₀:=H3,env:=compEnvC scope (jq X.env scope.names []) C X.env,outer:=X.stack,stack:=X.stack,ex:=ex,
    fn:=fun _=>false,calm:=true,pn:=[],xe:=fun _ _=>False }
def cz (X:Cx) (scope:Scope):List Str->List Nat->Prop
 | [],[]=>True
 | y :: ys,j :: js=>X.N[j]?=some y/\(X.env.scope.names.lookup y=some .cell/\scope.names.lookup y=some .free)/\cz X scope ys js
 | _,_=>False
theorem cz.get {X:Cx} {scope:Scope}:∀ {ys:List Str} {js:List Nat} {k:Nat} {y:Str},cz X scope ys js->ys[k]?=some y->∃ j,js[k]?=some j/\X.N[j]?=some y/\X.env.scope.names.lookup y=some .cell/\scope.names.lookup y=some .free
 | [],_,_,_,_,e=>by simp at e
 | _ :: _,[],_,_,h,_=>False.elim h
 | y :: ys,j :: js,0,z,h,e=>by simp at e;subst e;exact ⟨j,rfl,h.1,h.2.1⟩
 | y :: ys,j :: js,k+1,z,h,e=>by
  obtain ⟨j',e1,e2⟩:=cz.get (k:=k) h.2.2 (by simpa using e);exact ⟨j',by simpa using e1,e2⟩
theorem cz.len {X:Cx} {scope:Scope}:∀ {ys:List Str} {js:List Nat},cz X scope ys js->ys.length=js.length
 | [],[],_=>rfl
 | _ :: _,_ :: _,h=>by simp [cz.len h.2.2]
 | [],_ :: _,h=>False.elim h
 | _ :: _,[],h=>False.elim h
noncomputable def aY (js:List Nat) (σ:St):St:=js.map fun j=>(σ[j]?).getD none
structure fz (X:Cx) (scope:Scope) (x:Str):Prop where
 kind:scope.kind=.function
 cells:∀ y∈scope.names,y.2≠.cell
 locs:∀ y∈scope.names,y.2=.local->scope.names.lookup y.1=some .local
 var:scope.names.lookup x=some .local
 free:∀ y∈scope.names,y.2=.free->X.env.scope.names.lookup y.1=some .cell
def PTs (X:Cx) (ifs:List Expr) (t:TT):Prop :=
 ∀ (pins:List (Addr×Obj)) (s:Shared) (σ:St) (H:Hp) (Q:Bool->Hp->Prop),Inv X pins σ H s->t σ H Q ->
  wpAny (model X.prog X.w) X.A (forIn ifs true fun c r=>if r=true then do let ok<-isTrue c X.env (eval c X.env);pure (ForInStep.yield ok) else pure (ForInStep.yield r)) (TP X pins σ Q) X.xe s
def DH:TT:=fun _ H Q=>Q true H
theorem vA {X:Cx}:PTs X [] DH:=fun _ _ _ H _ I h=>wpAny_tests_nil ⟨H,I,h⟩
theorem oU {X:Cx} {pins:List (Addr×Obj)} {σ:St} {H:Hp} {s3:Shared} {h1:Heap} {tk:Nat} {scope:Scope} {x:Str} {ys:List Str} {js:List Nat} {ex:List Addr} (I:Inv X pins σ H s3) (hc:X.calm=true) (B:fz X scope x) (cap:cz X scope ys js)
  (hns:h1.Ns s3.heap.objs.size (fun _=>none)) (hk:∀ b o,s3.heap.get? b=some o->h1.get? b=some o)
  (hex:∀ b∈ex,b ∉ frs X.stack/\b < s3.heap.objs.size/\(∀ y c,X.env.cells.lookup y=some c->c≠b)/\X.base.get? b=none) :
  Inv (cxB X (x :: ys) scope s3.heap.objs.size s3 H ex) [] (none :: aY js σ) H { s3 with heap:=h1,toks:=tk }:=by
 have hfree:∀ y∈scope.names,y.2=.free->∃ c,X.env.cells.lookup y.1=some c:=fun y hy hf=>I.ok.has y.1 (.inl (B.free y hy hf));have sub:=i3 (env:=X.env) scope.names [] hfree (fun _ _ e=>by simp at e)
 refine ⟨⟨I.ok.mod,B.kind,I.ok.glob,I.ok.blt,Gu _,fun y z c h1 h2=>I.ok.inj y z c (sub _ _ h1) (sub _ _ h2),fun y hy=>?_,fun y c hf _=>?_,fun _=>I.ok.hd hc,I.ok.frames,.inl rfl,fun b hb=>?_,fun b o e=>I.bs b o e,GU I.ok.bsz I.sz,fun b o e hb=>?_,fun b hb=>(hex b hb).1,I.stack,I.k9⟩,
  rfl,I.bare,Un.kept hk,⟨_,hns,fun i y v e1 e2 e3=>?_⟩,fun y c e=>?_,I.hok.fresh (Gu _),fun y c e=>I.fD y c (sub _ _ e),fun p hp=>absurd (show p∈([]:List (Addr×Obj)) from hp) (by simp),I.hok.kept hk,?_⟩
 ·have hy:(relabel scope X.env).names.lookup y=some .cell\/(relabel scope X.env).names.lookup y=some .free:=hy;rcases hy with hy | hy
  ·rcases aN _ hy with q | ⟨_,q⟩
   ·exact absurd rfl (B.cells _ q)
   ·exact ck _ _ q
  ·rcases aN _ hy with q | ⟨q,_⟩
   ·exact ck _ _ q
   ·cases q
 ·exact absurd (show false=true from hf) (by simp)
 ·exact ⟨GK (hex b hb).2.1,fun y c e=>(hex b hb).2.2.1 y c (sub _ _ e)⟩
 ·have e':X.base.get? b=some o:=e;have:=(hex b hb).2.2.2;rw [e'] at this;cases this
 ·cases i with
  | zero=>simp at e2
  | succ i =>
   have e1':ys[i]?=some y:=by simpa [cxB] using e1
   have e2':(aY js σ)[i]?=some (some v):=by simpa using e2
   obtain ⟨j,ej,en,ec,ef⟩:=cap.get e1';have e4:σ[j]?=some (some v):=by
    unfold aY at e2';rw [GB,ej] at e2';simp only [Option.map_some,Jo] at e2';cases q:σ[j]? with
    | none=>rw [q] at e2';cases e2'
    | some w=>rw [q] at e2';simp at e2';rw [e2']
   obtain ⟨m,hn,hl⟩:=I.loc;obtain ⟨u,r,l⟩:=hl j y v en e4 (.inr (.inl ec));refine ⟨u,r,.inr ?_⟩;rcases l with ⟨kl,_⟩ | ⟨kc,c,ecl,cell⟩
   ·have kl:X.env.scope.names.lookup y=some .local:=kl;rw [ec] at kl;cases kl
   ·have e3:(relabel scope X.env).names.lookup y=some .local\/(relabel scope X.env).names.lookup y=some .cell\/(relabel scope X.env).names.lookup y=some .free:=e3;refine ⟨?_,?_⟩
    ·rcases e3 with q | q | q
     ·rcases aN _ q with q | ⟨q,_⟩
      ·have:=B.locs _ q rfl;rw [ef] at this;cases this
      ·cases q
     ·exact .inl q
     ·exact .inr q
    ·have mem:(y,NameKind.free)∈scope.names:=Ii ef;obtain ⟨c',ec'⟩:=ck (env:=X.env) scope.names [] mem;have:=sub _ _ ec';rw [ecl] at this;cases this;obtain ⟨o,ho,hd⟩:=cell;exact ⟨c,ec',o,hk _ _ ho,hd⟩
 ·obtain ⟨v,o,ho,hd⟩:=I.cell y c (sub _ _ e);exact ⟨v,o,hk _ _ ho,hd⟩
 ·show (none :: aY js σ).length=(x :: ys).length;rw [GH,GH,cap.len];unfold aY;rw [Gg]
def nu (js:List Nat) (wi:TI) (tt:TT) (te:TE):TE:=fun σ H Q=>wi σ H fun J H1=>∃ W:Nat->Nat->List V->Hp->Prop,(∃ m,W 0 m [] H1)/\∀ i m acc H,W i m acc H ->
 (J.stop i H/\acc.length<=sizeLine/\∀ p,H p=none->Q (.ref p) (upd H p (.lst acc)))\/(J.go i H/\acc.length < sizeLine/\∀ x H',J.yld i H x H' ->
  tt (some x :: aY js σ) H' fun b H2=>if b=true then te (some x :: aY js σ) H2 fun y H3=>∃ m',m' < m/\W (i+1) m' (acc++[y]) H3 else ∃ m',m' < m/\W (i+1) m' acc H2)
theorem q5 {M:Model} {A:Around} {α β:Type} {E E':Value->Shared->Prop} {a:α} {t:Sem α} {u:Sem β} {Q:α->Shared->Prop} {R:β->Shared->Prop} {s s':Shared} (e:t=pure a) (h:wpAny M A t Q E s) (k:Q a s->wpAny M A u R E' s'):wpAny M A u R E' s':=by
 subst e;exact fun Γ p hΓ=>k (h Γ p hΓ) Γ p hΓ
theorem lO {X:Cx} {pins:List (Addr×Obj)} {σ:St} {H:Hp} {s2:Shared} {elt iter:Expr} {x:Str} {px pos:Pos} {ifs:List Expr} {scope:Scope} {tt:TT} {te:TE} {ys:List Str} {js:List Nat} {it:Addr} {fp:List Addr} {tn:Nat->Heap->Prop} {J:It}
    {Q:VK} {E:Value->Shared->Prop} {RR:Value->Addr->Result->Shared->Prop} (hc:X.calm=true) (B:fz X scope x) (nd:(x :: ys).Nodup) (cap:cz X scope ys js)
    (ht:∀ C s3 H3 ex,PTs (cxB X (x :: ys) scope C s3 H3 ex) ifs tt) (he:∀ C s3 H3 ex,PE (cxB X (x :: ys) scope C s3 H3 ex) elt te)
    (I:Inv X pins σ H s2) (T:Turn X.prog X.w X.K (.Name x px) J fp it tn) (h0:tn 0 s2.heap) (hf:∀ b∈fp,qY X pins H b)
    (W:Nat->Nat->List V->Hp->Prop) (w0:∃ m,W 0 m [] H)
    (turn:∀ i m acc H,W i m acc H->(J.stop i H/\acc.length<=sizeLine/\∀ p,H p=none->Q (.ref p) (upd H p (.lst acc)))\/(J.go i H/\acc.length < sizeLine/\∀ x H',J.yld i H x H' ->
      tt (some x :: aY js σ) H' fun b H2=>if b=true then te (some x :: aY js σ) H2 fun y H3=>∃ m',m' < m/\W (i+1) m' (acc++[y]) H3 else ∃ m',m' < m/\W (i+1) m' acc H2))
    (hRR:∀ (D C:Addr) (H':Hp) (s':Shared) (m':Str->Option Value),s'.heap.Ns C m'->s2.heap.objs.size<=C->C≠D->H' C=none->Inv X pins σ H' s'->Q (.ref D) H'->RR (.ref D) C (.ok .next) s') :
    wpAny (model X.prog X.w) X.A (newList []) (fun acc s₃=>wpAny (model X.prog X.w) X.A (newFunctionEnv scope X.env.globals (jq X.env scope.names []) [] X.env.qual none .none (some X.env)) (fun cenv s₄ =>
      codeAny (model X.prog X.w) X.A (.compStart (.ListComp elt [⟨.Name x px,iter,ifs,0⟩] scope pos) 0 (.ref it) acc { cenv with scope:=relabel scope X.env }) (RR acc cenv.locals) s₄) E s₃) E s2:=by
  refine HA (wpAny_newFunctionEnv B.cells (by intro y hy;simp at hy) (fun h1 hns hsb=>?_) B.kind);dsimp only at hns hsb ⊢;have hD:H s2.heap.objs.size=none:=I.hok.fresh (Gu _);generalize hH2:s2.heap.push { cls:=.type "list", dict:=none,data:=.seq ([]:List Value).toArray }=P2 at hns hsb ⊢;have hgetD:P2.get? s2.heap.objs.size=some { cls:=.type "list", dict:=none,data:=.seq ([]:List Value).toArray }:=by rw [<- hH2];exact GR _ rfl
  have hold:∀ b o,s2.heap.get? b=some o->P2.get? b=some o:=fun b o e=>by rw [<- hH2];exact Gq _ e
  have hsz:P2.objs.size=s2.heap.objs.size+1:=by rw [<- hH2,IU]
  have I3:Inv X pins σ H { s2 with heap:=P2,toks:=s2.toks }:=I.kept hold;generalize hDe:s2.heap.objs.size=D at *;have keep1:∀ b o,P2.get? b=some o->h1.get? b=some o:=fun b o e=>hsb.extBut b o (GK (GA e)) (Gq _ e);have hfp:∀ b∈fp,b < D:=fun b hb=>by
    obtain ⟨o,e,_⟩:=T.obj _ _ h0 b hb;rw [<- hDe];exact GA e
  have hstk:∀ b,b≠X.env.locals->b ∉ X.fs->b ∉ frs X.stack:=fun b h1 h2 z=>(Gv.mp (I.ml b z)).elim h1 h2;have hDl:D≠X.env.locals:=fun z=>absurd I.lt (by rw [hDe,z];exact Hd _);have hDfs:D ∉ X.fs:=I.Br (by rw [hDe];exact Gu _);have hDc:∀ y c,X.env.cells.lookup y=some c->c≠D:=fun y c e z=>by
    obtain ⟨v,q⟩:=I.cell y c e;have:=q.lt;rw [z,hDe] at this;exact absurd this (Hd _)
  have hex:∀ b∈D :: fp,b ∉ frs X.stack/\b < ({ s2 with heap:=P2,toks:=s2.toks }:Shared).heap.objs.size/\(∀ y c,X.env.cells.lookup y=some c->c≠b)/\X.base.get? b=none:=fun b hb=>by
    rcases Gv.mp hb with rfl | hb
    · refine ⟨hstk _ hDl hDfs,by show _ < P2.objs.size;rw [hsz];exact Ia _,hDc,?_⟩;cases q:X.base.get? b with
      | none=>rfl
      | some o =>
        have:=GA (I.bk b o q);rw [hDe] at this;exact absurd this (Hd _)
    · obtain ⟨f0,f1,f2,f3,f4,f5⟩:=hf b hb;refine ⟨hstk _ f1 f2,by show _ < P2.objs.size;rw [hsz];exact Hj (hfp b hb),f4,?_⟩;cases q:X.base.get? b with
      | none=>rfl
      | some o =>
        rcases f3 with z | z
        · exact absurd z (I.ok.xq b o q)
        · exact absurd (GD (GA q) (GU I.ok.bsz z)) (Hd _)
  have IB:=oU (tk:=s2.toks) (ex:=D :: fp) I3 hc B cap (h1:=h1) hns keep1 hex;have hCD:P2.objs.size≠D:=by rw [hsz];exact Nat.succ_ne_self _
  have start:codeAny (model X.prog X.w) X.A (.compLoop (.ListComp elt [⟨.Name x px,iter,ifs,0⟩] scope pos) 0 (.ref it) (.ref D) (compEnvC scope (jq X.env scope.names []) P2.objs.size X.env)) (RR (.ref D) P2.objs.size) { s2 with heap:=h1,toks:=s2.toks }:=by
    obtain ⟨m0,w0⟩:=w0;refine codeAny_compLoop_tests (fun n s=>∃ i v0 H' acc its k,Inv (cxB X (x :: ys) scope P2.objs.size { s2 with heap:=P2,toks:=s2.toks } H (D :: fp)) [] (v0 :: aY js σ) H' s/\tn i s.heap/\(∀ b∈D :: fp,H' b=none)/\s.heap.get? D=some { cls:=.type "list", data:=.seq its k }/\Vals acc its.toList/\acc.length<=sizeLine/\W i n acc H') ?_ m0 ?_
    · rintro n s ⟨i,v0,H3,acc,its,k,I4,t4,fr4,g4,va,hl4,w4⟩;have hDm:D∈D :: fp:=Gm;have exf:=I4.ok.exf;have fsub:∀ b∈D :: fp,b ∉ (cxB X (x :: ys) scope P2.objs.size { s2 with heap:=P2,toks:=s2.toks } H (D :: fp)).fs:=fun b hb=>(hex b hb).1;have stat:∀ {H':Hp} {ob:Obj},(∀ b∈fp,H' b=none)->∀ b∈fp,qY (cxB X (x :: ys) scope P2.objs.size { s2 with heap:=P2,toks:=s2.toks } H (D :: fp)) [(D,ob)] H' b:=fun {H' ob} hn b hb =>
        ⟨hn b hb,(exf b (Gp _ hb)).1,fsub b (Gp _ hb),.inl (Gp _ hb),(exf b (Gp _ hb)).2,fun p hp z=>by
          have hp':p∈[(D,ob)]:=hp;have e:=Gn.mp hp';rw [e] at z
          exact absurd (hfp b hb) (by rw [<- show D=b from z];exact Hd _)⟩
      have frp:∀ b∈fp,H3 b=none:=fun b hb=>fr4 b (Gp _ hb);have I5:Inv (cxB X (x :: ys) scope P2.objs.size { s2 with heap:=P2,toks:=s2.toks } H (D :: fp)) [(D,{ cls:=.type "list", data:=.seq its k })] (v0 :: aY js σ) H3 s:=I4.cC fun p hp=>by
        rw [Gn.mp hp];exact ⟨g4,fr4 D hDm,(exf D hDm).1,fsub D hDm,fun v z=>nomatch z⟩
      rcases turn i n acc H3 w4 with ⟨stop,hacc,q⟩ | ⟨go,hacc,step⟩
      · refine Hg (T.done (cxB X (x :: ys) scope P2.objs.size { s2 with heap:=P2,toks:=s2.toks } H (D :: fp)) rfl rfl rfl rfl i _ s _ H3 (fun _ _=>False) I5 (stat frp) t4 stop) (fun r s1 ⟨hr,I6⟩=>?_) (fun _ _ z=>z.elim);subst hr;obtain ⟨m',hn',_⟩:=id I6.loc;have pD:=(I6.pin (D,{ cls:=.type "list", data:=.seq its k }) (Gr _ (Gn.mpr rfl))).1;have nD:H3 D=none:=fr4 D hDm;have u:=I6.base;have uu:Un (frs X.stack) (D :: fp) H (upd H3 D (.lst acc)) P2 s1.heap :=
          ⟨u.keep,u.slot,fun b o q n hx=>by rw [ag fun z=>hx (by rw [z];exact hDm)];exact u.free b o q n hx,u.there,
           fun b xs q=>by rw [ag (ak (u.nB b xs q) nD)];exact u.nB b xs q,fun b o v q=>by rw [ag (ak (u.mV b o v q) nD)];exact u.mV b o v q,
           fun b ps q=>by
            obtain ⟨more,z⟩:=u.qT b ps q
            exact ⟨more,by rw [ag (ak z nD)];exact z⟩⟩
        have hok:HOk X.prog X.w (upd H3 D (.lst acc)) s1.heap:=fun b o e=>by
          by_cases hb:b=D
          · subst hb;rw [ai] at e;cases e;exact ⟨hacc,its.toList,k,va,by rw [Jd];exact pD⟩
          · rw [ag hb] at e;exact (I6.hok b o e).jo (fun c v _ q=>q) (fun c q=>by rw [ag (ak q nD)];exact q) fun c xs q=>by rw [ag (ak q nD)];exact q
        have fin:=I3.call (g':=s1.gens) (t':=s1.toks) (d':=s1.drawn) uu hok I6.bare (fun b hb=>by
          rcases Gv.mp hb with z | hb
          · rw [z];refine ⟨.inr (by rw [<- hDe];exact I.sz),hDl,hDc,fun p hp z=>?_⟩;have:=GA (I.pin p hp).1;rw [z,hDe] at this;exact Hd _ this
          · exact ⟨(hf b hb).2.2.2.1,(hf b hb).2.1,(hf b hb).2.2.2.2.1,(hf b hb).2.2.2.2.2⟩)
        have es:({ heap:=s1.heap,gens:=s1.gens,drawn:=s1.drawn,toks:=s1.toks,os:=s2.os }:Shared)=s1:=by
          have:=I6.os;obtain ⟨a1,a2,a3,a4,a5⟩:=s1;have e5:a5=s2.os:=this;rw [e5]
        have fin':Inv X pins σ (upd H3 D (.lst acc)) s1:=es▸fin;exact hRR D P2.objs.size (upd H3 D (.lst acc)) s1 m' hn' (by rw [hsz];exact HW _) hCD (by rw [ag hCD];exact I6.free) fin' (q D nD)
      · refine Hg (T.item (cxB X (x :: ys) scope P2.objs.size { s2 with heap:=P2,toks:=s2.toks } H (D :: fp)) rfl rfl rfl rfl i _ s _ H3 (fun _ _=>False) I5 (stat frp) t4 go) (fun r s1 ⟨u,hr,h4⟩=>?_) (fun _ _ z=>z.elim);subst hr;refine q5 (a:=()) rfl h4 fun ⟨x',H5,I6,r6,y6,t6,fr6⟩=>?_;have I7:=I6.pinned (stat fr6) (T.obj _ _ t6);have kx:(relabel scope X.env).names.lookup x=some .local:=lookup_relabel_local B.var;have pg:PG (cxB X (x :: ys) scope P2.objs.size { s2 with heap:=P2,toks:=s2.toks } H (D :: fp)) (.Name x px) (cL 0):=gf nd rfl (.inl kx) (.inr kx);refine Hg (pg _ s1 _ H5 x' u (fun σ' H'=>σ'=some x' :: aY js σ/\H'=H5) I7 r6 ⟨rfl,rfl⟩) (fun _ s2' ⟨σ6,H6,I8,e1,e2⟩=>?_) (fun _ _ z=>z.elim);subst e1 e2;refine Hg (ht _ _ _ _ _ s2' _ _ _ I8 (step x' H6 y6)) (fun b s3' ⟨H7,I9,q9⟩=>?_) (fun _ _ z=>z.elim);have pinsKeep:∀ {σ':St} {H':Hp} {s':Shared},Inv (cxB X (x :: ys) scope P2.objs.size { s2 with heap:=P2,toks:=s2.toks } H (D :: fp)) ([(D,{ cls:=.type "list", data:=.seq its k })]++iy fp s1.heap) σ' H' s' ->
            s'.heap.get? D=some { cls:=.type "list", data:=.seq its k }/\(∀ b∈D :: fp,H' b=none)/\∀ b∈fp,∀ o,s1.heap.get? b=some o->s'.heap.get? b=some o:=fun {σ' H' s'} J=>by
          have pd:=J.pin (D,{ cls:=.type "list", data:=.seq its k }) (Gr _ (GQ _ (Gn.mpr rfl)));refine ⟨pd.1,fun b hb=>?_,fun b hb o e=>(J.pin (b,o) (Gr _ (Gr _ (bz hb e)))).1⟩;rcases Gv.mp hb with rfl | hb
          · exact pd.2.1
          · obtain ⟨o,e,_⟩:=T.obj _ _ t6 b hb;exact (J.pin (b,o) (Gr _ (Gr _ (bz hb e)))).2.1
        cases b with
        | false =>
          rw [Gy GV] at q9;obtain ⟨m',hm,w9⟩:=q9;obtain ⟨p1,p2,p3⟩:=pinsKeep I9;rw [Gy GV];exact ⟨m',hm,i+1,some x',H7,acc,its,k,I9.cC (fun p hp=>absurd hp (by simp)),T.keep _ _ _ t6 p3,p2,p1,va,hl4,w9⟩
        | true =>
          rw [Gs rfl] at q9;rw [Gs rfl];refine Hg (he _ _ _ _ _ s3' _ _ _ I9 q9) (fun y s4' ⟨yv,H8,I10,ry,m',hm,w10⟩=>?_) (fun _ _ z=>z.elim);obtain ⟨p1,p2,p3⟩:=pinsKeep I10;have hsize:its.size=acc.length:=by rw [va.length];simp
          have I11:=I10.cC (pins':=[]) (fun p hp=>absurd hp (by simp));refine wpAny_list_append_plain ⟨k,p1⟩ (fun h' hpl hsame=>?_) (by rw [hsize];exact Jg hacc);obtain ⟨k',e'⟩:=hpl;have neD:∀ {b:Addr} {o:HO},H8 b=some o->b≠D:=fun e z=>by rw [z,p2 D hDm] at e;cases e
          refine ⟨m',hm,i+1,some x',H8,acc++[yv],its.push y,k',?_,?_,p2,e',?_,?_,w10⟩
          · refine I11.step (g':=s4'.gens) (t':=s4'.toks) (d':=s4'.drawn) (ch:=[D]) (fun b hb=>?_) (fun b o _ _ hc' e _=>?_) (fun b o _ _ hc' e _=>⟨o.slots,?_⟩) (fun b o hc' e n=>n) (fun b o hc' e=>⟨o,?_⟩) (fun _ _ z=>z) (fun _ _ _ z=>z) (fun b ps z=>⟨#[],by rw [z];simp⟩) (fun m hn=>hn.sameBut hsame (Ne.symm (exf D hDm).1)) (fun b o e=>?_) I11.bare
            · rw [Gn.mp hb];exact ⟨.inl hDm,(exf D hDm).1,(exf D hDm).2,fun p hp=>absurd (show p∈([]:List (Addr×Obj)) from hp) (by simp)⟩
            · exact (hsame.2 b fun z=>hc' (Gn.mpr z)).trans e
            · exact (hsame.2 b fun z=>hc' (Gn.mpr z)).trans e
            · exact (hsame.2 b fun z=>hc' (Gn.mpr z)).trans e
            · refine (I11.hok b o e).jo (fun c v hc' q=>(hsame.2 c ?_).trans q) (fun _ q=>q) fun _ _ q=>q;rcases hc' with z | z
              · rw [z];exact neD e
              · exact neD z
          · refine T.keep _ _ _ t6 fun b hb o e=>(hsame.2 b ?_).trans (p3 b hb o e);exact GK (hfp b hb)
          · rw [IV];exact va.append (.cons ry .nil)
          · rw [Gf,JD];exact hacc
    · refine ⟨0,none,H,[],#[],_,IB,T.keep _ _ _ h0 (fun b hb o e=>keep1 b o (hold b o e)),fun b hb=>?_,keep1 _ _ hgetD,.nil,Hn _,w0⟩;rcases Gv.mp hb with rfl | hb
      · exact hD
      · exact (hf b hb).1
  exact codeAny_compStart_list start (T.self _ 0 _ _ _ (T.keep _ _ _ h0 (fun b hb o e=>keep1 b o (hold b o e))) start)
theorem vI {X:Cx} {elt iter:Expr} {x:Str} {px pos:Pos} {ifs:List Expr} {scope:Scope} {wi:TI} {tt:TT} {te:TE} {ys:List Str} {js:List Nat} (hc:X.calm=true) (hi:PI X (.Name x px) iter wi) (B:fz X scope x) (nd:(x :: ys).Nodup) (cap:cz X scope ys js)
  (ht:∀ C s3 H3 ex,PTs (cxB X (x :: ys) scope C s3 H3 ex) ifs tt) (he:∀ C s3 H3 ex,PE (cxB X (x :: ys) scope C s3 H3 ex) elt te) (hs:∀ x,foldedSetIterable iter X.env x=pure x:=by intro _;rfl) :
  PE X (.ListComp elt [⟨.Name x px,iter,ifs,0⟩] scope pos) (nu js wi tt te):=by
 intro pins s σ H Q I h;have hcl:=eM (scope:=scope) (env:=X.env) fun y hy hf=>I.ok.has y.1 (.inl (B.free y hy hf));rw [eval_ListComp];refine wpAny_comprehension_free (use:=none) rfl hs hcl B.kind B.locs (Hg (hi pins s σ H _ I h) (fun xv s1 h1=>Hg h1 (fun itv s2 h2=>?_) fun _ _ e=>e) fun _ _ e=>e);obtain ⟨it,fp,tn,J,H2,e,I2,T,st2,f2,W,w0,turn⟩:=h2;subst e;refine lO (RR:=fun acc C=>compPost (model X.prog X.w) X.A X.xe none (EP X pins σ Q) acc C) hc B nd cap ht he I2 T st2 f2 W w0 turn ?_;intro D C H' s' m' hn hC hCD hCn I' q;refine ⟨m',hn,fun h' hs'=>⟨.ref D,H',?_,rfl,q⟩⟩;have hL:X.env.locals≠C:=GK (GD I2.lt hC);have neC:∀ {b:Addr} {o:HO},H' b=some o->b≠C:=fun e z=>by rw [z,hCn] at e;cases e
 refine I'.step (g':=s'.gens) (t':=s'.toks) (d':=s'.drawn) (ch:=[C]) (fun b hb=>?_) (fun b o _ _ hc' e _=>?_) (fun b o _ _ hc' e _=>⟨o.slots,?_⟩) (fun b o hc' e n=>n) (fun b o hc' e=>⟨o,?_⟩) (fun _ _ z=>z) (fun _ _ _ z=>z) (fun b ps z=>⟨#[],by rw [z];simp⟩) (fun m hn=>hn.sameBut hs' hL) (fun b o e=>?_) I'.bare
 ·rw [Gn.mp hb];refine ⟨.inr (GU I2.sz hC),Ne.symm hL,fun y c e z=>?_,fun p hp z=>?_⟩
  ·obtain ⟨v,q⟩:=I2.cell y c e;have:=q.lt;rw [z] at this;exact absurd (GD this hC) (Hd _)
  ·have:=GA (I2.pin p hp).1;rw [z] at this;exact absurd (GD this hC) (Hd _)
 ·exact (hs'.2 b fun z=>hc' (Gn.mpr z)).trans e
 ·exact (hs'.2 b fun z=>hc' (Gn.mpr z)).trans e
 ·exact (hs'.2 b fun z=>hc' (Gn.mpr z)).trans e
 ·refine (I'.hok b o e).jo (fun c v hc' q=>(hs'.2 c ?_).trans q) (fun _ q=>q) fun _ _ q=>q;rcases hc' with z | z
  ·rw [z];exact neC e
  ·exact neC z
theorem vp {X:Cx} {elt iter:Expr} {x y:Str} {px py pos spos:Pos} {ifs:List Expr} {scope:Scope} {wi:TI} {tt:TT} {te:TE} {ys:List Str} {js:List Nat} {i:Nat} (hN:X.N.Nodup) (hi':X.N[i]?=some y) (hy:X.env.scope.names.lookup y=some .local)
  (hsw:swapsWith (.ListComp elt [⟨.Name x px,iter,ifs,0⟩] scope pos) (some (.Name y py)) spos.line X.env=pure true) (hc:X.calm=true) (hi:PI X (.Name x px) iter wi) (B:fz X scope x) (nd:(x :: ys).Nodup) (cap:cz X scope ys js)
  (ht:∀ C s3 H3 ex,PTs (cxB X (x :: ys) scope C s3 H3 ex) ifs tt) (he:∀ C s3 H3 ex,PE (cxB X (x :: ys) scope C s3 H3 ex) elt te) (hs:∀ x,foldedSetIterable iter X.env x=pure x:=by intro _;rfl) :
  PS X (.Assign [.Name y py] (.ListComp elt [⟨.Name x px,iter,ifs,0⟩] scope pos) spos) (pP (nu js wi tt te) (cL i)):=by
 intro pins s σ H Dn I h;have hcl:=eM (scope:=scope) (env:=X.env) fun y hy hf=>I.ok.has y.1 (.inl (B.free y hy hf));rw [exec_Assign_Name_used _ _ _ _ hsw];refine Ge (wpAny_standAt (Ge ?_));show wpAny _ X.A (do let _<-comprehension (.ListComp elt [⟨.Name x px,iter,ifs,0⟩] scope pos) scope X.env _ (newList []) false (eval iter X.env) (some (assign (.Name y py) X.env))) _ _ s
 refine Ge (Hg (wpAny_comprehension_free (use:=some (assign (.Name y py) X.env)) (Q:=fun _ s'=>SP X pins Dn .next s') rfl hs hcl B.kind B.locs
  (Hg (hi pins s σ H _ I h) (fun xv s1 h1=>Hg h1 (fun itv s2 h2=>?_) fun _ _ e=>e) fun _ _ e=>e)) (fun _ s' hq=>Gi (Gi hq)) fun _ _ e=>e)
 obtain ⟨it,fp,tn,J,H2,e,I2,T,st2,f2,W,w0,turn⟩:=h2;subst e;refine lO (Q:=fun x H1=>cL i x σ H1 Dn.nx) (RR:=fun acc C=>compPost (model X.prog X.w) X.A X.xe (some (assign (.Name y py) X.env)) (fun _ s'=>SP X pins Dn .next s') acc C) hc B nd cap ht he I2 T st2 f2 W w0 turn ?_;intro D C H' s' m' hn hC hCD hCn I' q;have hL:X.env.locals≠C:=GK (GD I2.lt hC);have hCfs:C ∉ X.fs:=I2.Br hC;obtain ⟨oC,esC,epC,hoC,hdC,restC⟩:=id hn;have I'':Inv X (pins++[(C,oC)]) σ H' s':=I'.cC fun p hp=>by
  rcases GS.mp hp with z | z
  ·exact I'.pin p (Gr _ z)
  ·rw [Gn.mp z];exact ⟨hoC,hCn,Ne.symm hL,hCfs,fun v z=>by rw [hdC] at z;cases z⟩
 show wpAny _ X.A (assign (.Name y py) X.env (.ref D)) _ _ _;refine Hg (gf (pos:=py) hN hi' (.inl hy) (.inr hy) _ s' σ H' (.ref D) (.ref D) Dn.nx I'' rfl q) (fun _ s3 ⟨σ3,H3,I3,q3⟩=>?_) fun _ _ e=>e;have pC:=I3.pin (C,oC) (Gr _ (Gr _ (Gn.mpr rfl)));have hn3:s3.heap.Ns C m':=⟨oC,esC,epC,pC.1,hdC,restC⟩;have hCn3:H3 C=none:=pC.2.1;refine ⟨m',hn3,fun h' hs'=>⟨σ3,H3,?_,q3⟩⟩;have I4:=I3.fT;have neC:∀ {b:Addr} {o:HO},H3 b=some o->b≠C:=fun e z=>by rw [z,hCn3] at e;cases e
 refine I4.step (g':=s3.gens) (t':=s3.toks) (d':=s3.drawn) (ch:=[C]) (fun b hb=>?_) (fun b o _ _ hc' e _=>?_) (fun b o _ _ hc' e _=>⟨o.slots,?_⟩) (fun b o hc' e n=>n) (fun b o hc' e=>⟨o,?_⟩) (fun _ _ z=>z) (fun _ _ _ z=>z) (fun b ps z=>⟨#[],by rw [z];simp⟩) (fun m hn=>hn.sameBut hs' hL) (fun b o e=>?_) I4.bare
 ·rw [Gn.mp hb];refine ⟨.inr (GU I2.sz hC),Ne.symm hL,fun y c e z=>?_,fun p hp z=>?_⟩
  ·obtain ⟨v,q⟩:=I2.cell y c e;have:=q.lt;rw [z] at this;exact absurd (GD this hC) (Hd _)
  ·have:=GA (I2.pin p hp).1;rw [z] at this;exact absurd (GD this hC) (Hd _)
 ·exact (hs'.2 b fun z=>hc' (Gn.mpr z)).trans e
 ·exact (hs'.2 b fun z=>hc' (Gn.mpr z)).trans e
 ·exact (hs'.2 b fun z=>hc' (Gn.mpr z)).trans e
 ·refine (I4.hok b o e).jo (fun c v hc' q=>(hs'.2 c ?_).trans q) (fun _ q=>q) fun _ _ q=>q;rcases hc' with z | z
  ·rw [z];exact neC e
  ·exact neC z
def Its (x:Str):It:=⟨fun i _=>i < x.length,fun i H v H'=>H'=H/\∃ c,x.cps[i]?=some c/\v=.str ⟨#[c]⟩,fun i _=>x.length<=i⟩
def Ff (tl:TE):TI:=fun σ H R=>tl σ H fun x H1=>∃ z,x=.str z/\R (Its z) H1
section
variable {X:Cx}
theorem OpR.or' {f:Value->Value->Sem Value} {r r':R2} (h:OpR X f r) (h':OpR X f r'):OpR X f (fun x y H Q=>r x y H Q\/r' x y H Q):=by
 intro pins s σ H x y v u Q I rx ry q;rcases q with q | q
 ·exact h pins s σ H x y v u Q I rx ry q
 ·exact h' pins s σ H x y v u Q I rx ry q
theorem rY:OpR X (binaryOp .FloorDiv) (rI (fun _ j=>0 < j/\j.natAbs.log2 < 9000) fun i j=>.int (i / j)):=opI fun i j _ _ _ _ _ hc q=>by
 have h1:(0:Int) < j:=hc.1;exact floordiv_int (by omega) (by rw [Int.fdiv_eq_ediv_of_nonneg i (by omega)];exact q) (.inl (PyProof.noPylong_of_log2 hc.2))
noncomputable def gZ (x:Str) (lo hi:Option Int):Str:=⟨((x.cps.toList.drop (HT.sIx x.length 0 lo)).take (HT.sIx x.length x.length hi - HT.sIx x.length 0 lo)).toArray⟩
theorem CW (lo hi:Option Int) (n:Nat):Builtin.Str.strSliceIndices lo hi 1 n=(List.range (HT.sIx n n hi - HT.sIx n 0 lo)).map (HT.sIx n 0 lo+·):=by
 rw [<- sliceRange_one];unfold Builtin.Str.strSliceIndices;dsimp only;have h1:(1:Int) > 0:=by decide
 have e0:(match lo with | none=>(if (1:Int) > 0 then 0 else (n:Int) - 1) | some i=>if (1:Int) > 0 then max 0 (min (if i < 0 then i+(n:Int) else i) (n:Int)) else max (-1) (min (if i < 0 then i+(n:Int) else i) ((n:Int) - 1)))=((HT.sIx n 0 lo:Nat):Int):=by
  cases lo with
  | none=>simp [HT.sIx]
  | some i =>
   simp only [HT.sIx,h1,Im];by_cases h:i < 0
   ·simp only [h,Im] <;> omega
   ·simp only [h,HP] <;> omega
 have e1:(match hi with | none=>(if (1:Int) > 0 then (n:Int) else -1) | some i=>if (1:Int) > 0 then max 0 (min (if i < 0 then i+(n:Int) else i) (n:Int)) else max (-1) (min (if i < 0 then i+(n:Int) else i) ((n:Int) - 1)))=((HT.sIx n n hi:Nat):Int):=by
  cases hi with
  | none=>simp [HT.sIx]
  | some i =>
   simp only [HT.sIx,h1,Im];by_cases h:i < 0
   ·simp only [h,Im] <;> omega
   ·simp only [h,HP] <;> omega
 rw [<- e0,<-e1];cases lo <;> cases hi <;> rfl
theorem l5 (n:Nat) (v:Option Int):HT.sIx n n v<=n/\HT.sIx n 0 v<=n:=by
 cases v with
 | none=>simp [HT.sIx]
 | some i =>
  simp only [HT.sIx];split <;> omega
def EM:V->Option Int->Option Int->Hp->VK->Prop:=fun x lo hi H Q=>∃ z,x=.str z/\z.length<=sizeLine/\Q (.str (gZ z lo hi)) H
theorem bB (x:Str) (lo hi:Option Int):(gZ x lo hi).length<=x.length:=by
 have e:x.cps.toList.length=x.length:=by simp [Str.length]
 show (((x.cps.toList.drop _).take _).toArray).size<=x.length;rw [Gw,GX,HC,e];omega
theorem nL:SlR X EM:=by
 intro pins s σ H x v vl vu lo hi sl Q I rx hs pl pu h;obtain ⟨z,rfl,hz,q⟩:=h;obtain ⟨t,rfl⟩:=rx;refine ⟨"str", _,F.slot_str_getitem.lookup,typeIs_str _ _ _,?_⟩;obtain ⟨l,el,el'⟩:∃ l:Option (Int×Tok),l.map (·.1)=lo/\vl=partValue l:=by
  cases pl with
  | none=>exact ⟨none,rfl,rfl⟩
  | int i t=>exact ⟨some (i,t),rfl,rfl⟩
 obtain ⟨u,eu,eu'⟩:∃ l:Option (Int×Tok),l.map (·.1)=hi/\vu=partValue l:=by
  cases pu with
  | none=>exact ⟨none,rfl,rfl⟩
  | int i t=>exact ⟨some (i,t),rfl,rfl⟩
 subst el' eu';obtain ⟨o,h1,h2,h3⟩:=hs;refine wpAny_getItem_str_slice (l:=l) (u:=u) (st:=none) ⟨o,h1,h2,h3⟩ rfl ?_;have pk:slicePicked z l u none=(List.range (HT.sIx z.length z.length hi - HT.sIx z.length 0 lo)).map (HT.sIx z.length 0 lo+·):=by
  rw [<- CW,<-el,<-eu];rfl
 have ez:z.cps.toList.length=z.length:=by simp [Str.length]
 have cut:(⟨((slicePicked z l u none).filterMap (z.cps[·]?)).toArray⟩:Str)=gZ z lo hi:=by
  rw [pk,pick_run];rfl
 unfold sliceMade;split
 ·rename_i hc;have hl:(slicePicked z l u none).length=z.length:=by
   have:=(Bool.and_eq_true_iff.mp hc).2;simpa using this
  rw [pk,Gg,Hf] at hl;have b1:=l5 z.length hi;have b2:=l5 z.length lo;have h0:HT.sIx z.length 0 lo=0\/z.length=0:=by omega
  have e:gZ z lo hi=z:=by
   unfold gZ;rcases h0 with h0 | h0
   ·rw [h0,List.drop_zero,Hw (by omega)]
   ·have hn:z.cps.toList=[]:=GZ (by omega);rw [hn];have:z.cps=#[]:=by
     have:=congrArg List.toArray hn;simpa using this
    obtain ⟨c⟩:=z;simp only at this;subst this;simp
  rw [e] at q;exact ⟨.str z,H,I,⟨t,rfl⟩,q⟩
 ·rw [cut];exact ⟨GU (bB _ _ _) hz,⟨.str _,H,I.tok _,⟨_,rfl⟩,q⟩⟩
end
mutual
def Dn (p:Addr) (H:Hp):PyData->V->Prop
 | .none,v=>v=.non
 | .bool b,v=>v=.bl b
 | .int i,v=>v=.int i
 | .str x,v=>v=.str x
 | .list ds,v=>∃ a xs,v=.ref a/\a≠p/\H a=some (.lst xs)/\DnL p H ds xs
 | .tuple ds,v=>∃ a xs,v=.ref a/\a≠p/\H a=some (.tup xs)/\DnL p H ds xs
 | .dict kvs,v=>kvs=[]/\∃ a,v=.ref a/\a≠p/\H a=some (.dK [])
def DnL (p:Addr) (H:Hp):List PyData->List V->Prop
 | [],vs=>vs=[]
 | d :: ds,vs=>∃ v r,vs=v :: r/\Dn p H d v/\DnL p H ds r
end
open PySem PySem.Spec PyProof.Rows
def rOr (r r':R2):R2:=fun x y H Q=>r x y H Q\/r' x y H Q
def Ck (r r':V->Option Int->Option Int->Hp->VK->Prop):V->Option Int->Option Int->Hp->VK->Prop:=fun x l u H Q=>r x l u H Q\/r' x l u H Q
def Ao:R2:=fun x y H Q=>∃ i j,x=.str i/\y=.str j/\i.length+j.length<=sizeLine/\Q (.str (i++j)) H
def EF:R2:=fun x y H Q=>∃ i j,x=.str i/\y=.str j/\Q (.bl (decide (i.cps.toList < j.cps.toList))) H
def FW:R2:=fun x y H Q=>∃ i j,x=.str i/\y=.str j/\Q (.bl (!(Builtin.Str.occurrences j i 0 j.length 1).isEmpty)) H
def Bb (K:Fg):List V->Hp->VK->Prop:=fun xs H Q=>∃ x n,xs=[x]/\E7 K x H n/\Q (.int n) H
def Cz:List V->Hp->VK->Prop:=fun xs H Q=>∃ i,xs=[.int i]/\Q (.int (if i < 0 then -i else i)) H
def yi:List V->Hp->VK->Prop:=fun xs H Q=>(∃ i,xs=[.int i]/\Q (.int i) H)\/∃ k,xs=[.bl k]/\Q (.int (if k then 1 else 0)) H
section
variable {X:Cx}
theorem orR {f:Value->Value->Sem Value} {r r':R2} (h:OpR X f r) (h':OpR X f r'):OpR X f (rOr r r'):=OpR.or' h h'
theorem orS {r r':V->Option Int->Option Int->Hp->VK->Prop} (h:SlR X r) (h':SlR X r'):SlR X (Ck r r'):=SlR.or h h'
theorem xj:OpR X (binaryOp .Add) Ao:=mP
theorem xW:OpR X (compareOp .Lt) EF:=qR
theorem AI:OpR X (compareOp .In) FW:=qp
theorem qv:az X (.builtin "len") (Bb X.K):=tP
theorem nK:az X (.builtin "abs") Cz:=rH
theorem nG:az X (.type "int") yi:=oe
end
end L2
namespace L2
open PySem
noncomputable def lY (sc scope:Scope) (x:Str):Bool :=
 (scope.kind==.function)&&scope.names.all (fun y=>y.2 != .cell)&&scope.names.all (fun y=>y.2 != .local||scope.names.lookup y.1==some .local)&&(scope.names.lookup x==some .local)&&scope.names.all (fun y=>y.2 != .free||sc.names.lookup y.1==some .cell)
theorem bsc {X:Cx} {sc scope:Scope} {x:Str} (e:X.env.scope=sc) (h:lY sc scope x=true):fz X scope x:=by
 unfold lY at h;simp only [GY,IZ,JB,bne_iff_ne,Hl,ne_eq] at h;obtain ⟨⟨⟨⟨h1,h2⟩,h3⟩,h4⟩,h5⟩:=h;exact ⟨h1,fun y hy=>h2 y hy,fun y hy e=>(h3 y hy).resolve_left fun z=>z e,h4,fun y hy e'=>by rw [e];exact (h5 y hy).resolve_left fun z=>z e'⟩
end L2
namespace L2
open PySem
theorem bG {e:Expr} {es:List Expr} {env:Env} (h:PySem.W.isStarred e=false):starEach (e :: es) env=(false,eval e env) :: starEach es env:=by
 cases e <;> first | rfl | exact absurd h (by simp [PySem.W.isStarred])
theorem cN {pos:Pos} {env:Env}:∀ {es:List Expr},es.all (fun e=>!PySem.W.isStarred e)=true->(backTo pos (starEach es env)).any (·.1)=false
 | [],_=>rfl
 | e :: es,h=>by
  rw [List.all_cons,GY] at h;rw [bG (by simpa using h.1)];have ih:=cN (pos:=pos) (env:=env) h.2;unfold backTo at ih ⊢;rw [List.map_cons,List.any_cons,ih];rfl
structure JE (X:Cx) (e:Expr) (t:TE):Prop where
 h:PE X e t
structure JT (X:Cx) (e:Expr) (t:TT):Prop where
 h:PT X e t
structure JW (X:Cx) (e:Expr) (t:TT):Prop where
 h:PW X e t
structure JA (X:Cx) (es:List Expr) (t:TA):Prop where
 h:PA X es t
structure JS (X:Cx) (s:Stmt) (t:TS):Prop where
 h:PS X s t
structure JSs (X:Cx) (s:List Stmt) (t:TS):Prop where
 h:PSs X s t
structure JG (X:Cx) (e:Expr) (t:TG):Prop where
 h:PG X e t
structure JI (X:Cx) (tg e:Expr) (t:TI):Prop where
 h:PI X tg e t
structure JO (X:Cx) (e:Option Expr) (t:TO):Prop where
 h:PO X e t
structure JC (X:Cx) (N:List Str) (scope:Scope) (e:Expr) (t:TE):Prop where
 h:∀ C s3 H3 ex,PE (cxB X N scope C s3 H3 ex) e t
structure JTs (X:Cx) (N:List Str) (scope:Scope) (e:List Expr) (t:TT):Prop where
 h:∀ C s3 H3 ex,PTs (cxB X N scope C s3 H3 ex) e t
section
variable {X:Cx} {e a b c:Expr} {es rest:List Expr} {te ta tb tc:TE} {tA tB':TT} {t:TA} {x:Str} {p pos:Pos} {id T:String} {r:List V->Hp->VK->Prop} {CX:CXT} {k:Nat} {f:Addr} {fd:FuncData} {ps:List Str} {sp:Sp} {ds:List Value} {dvs:List V} {E:XK}
theorem EV (i:Nat) (hN:X.N[i]?=some x) (hv:Vis X.env.scope x) (hd:(x==("__debug__" : Str))=false) (hcd:(x==("__classdict__" : Str))=false):JE X (.Name x pos) (qZ i):=⟨uj hN hv hd hcd⟩
theorem ah {i j}:JE X (.Constant (.int i) j pos) (tC (.int i)):=⟨zW⟩
theorem eBl {b j}:JE X (.Constant (.bool b) j pos) (tC (.bl b)):=⟨DB⟩
theorem AX {j}:JE X (.Constant .none j pos) (tC .non):=⟨y1⟩
theorem aH {x j}:JE X (.Constant (.str x) j pos) (tC (.str x)):=⟨xN⟩
theorem ab:JA X [] v7:=⟨yO⟩
theorem eA (ha:JE X e te) (hr:JA X es t) (h:PySem.W.isStarred e=false):JA X (e :: es) (jA te t):=⟨v3 ha.h hr.h (bG h)⟩
theorem zK (F:bN X.prog X.w X.K X.mg X.base CX k f fd ps sp) (hr:eD k X.A) (hg:Gl X x) (hm:X.mg x=some (.ref f)) (hk:PySem.W.keepIn X.K (.ref f)=true) (hb:Binds X.K fd ps ds) (hd:Vals dvs ds) (hx:Passes CX X E)
  (ha:JA X (e :: es) t) (h1:PySem.W.isStarred e=false) (h2:es.all (fun e=>!PySem.W.isStarred e)=true) (hdb:(x==("__debug__" : Str))=false):JE X (.Call (.Name x p) (e :: es) [] pos) (pW sp dvs E t) :=
 ⟨w6 F hr hg hm hk hb hd hx ha.h hdb (bG h1) (cN h2)⟩
theorem eB (hc:az X (.builtin id) r) (hg:Gl X x) (hm:X.mg x=none) (hv:bootBuiltins x=some (.builtin id)) (ha:JA X (e :: es) t) (h1:PySem.W.isStarred e=false) (h2:es.all (fun e=>!PySem.W.isStarred e)=true)
  (hn:x ≠ "__name__") (hdb:(x==("__debug__" : Str))=false):JE X (.Call (.Name x p) (e :: es) [] pos) (tCB r t):=⟨rq hc hg hm hv ha.h hn hdb (bG h1) (cN h2)⟩
theorem eTy (hc:az X (.type T) r) (hg:Gl X x) (hm:X.mg x=none) (hv:bootBuiltins x=some (.type T)) (ha:JA X (e :: es) t) (h1:PySem.W.isStarred e=false) (h2:es.all (fun e=>!PySem.W.isStarred e)=true)
  (hn:x ≠ "__name__") (hdb:(x==("__debug__" : Str))=false):JE X (.Call (.Name x p) (e :: es) [] pos) (tCB r t):=⟨qG hc hg hm hv ha.h hn hdb (bG h1) (cN h2)⟩
theorem eR1 {tg a:Expr} {ta:TA} (hg:Gl X "range") (hm:X.mg "range" = none) (ha:JA X [a] ta) (h:PySem.W.isStarred a=false):JI X tg (.Call (.Name "range" p) [a] [] pos) (vP ta):=⟨oZ hg hm ha.h (bG h)⟩
theorem eIL {tg:Expr} (h:JE X e te):JI X tg e (rl X.K te):=⟨pI h.h⟩
theorem eIT {tg:Expr} (h:JE X e te):JI X tg e (Bh X.K te):=⟨uT h.h⟩
theorem wK {v:V} {u:Value} (hg:Gl X x) (hm:X.mg x=some u) (r:RelV v u) (hd:(x==("__debug__" : Str))=false):JE X (.Name x pos) (tC v):=⟨wm hg hm r hd⟩
theorem eOp {op:Operator} {r:R2} (ho:OpR X (binaryOp op) r) (ha:JE X a ta) (hb:JE X b tb):JE X (.BinOp a op b pos) (tOp r ta tb):=⟨Ce ho ha.h hb.h⟩
theorem eUn {op:UnaryOp} {r:V->Hp->VK->Prop} (ho:UnR X (unaryOp op) r) (ha:JE X a ta):JE X (.UnaryOp op a pos) (tUn r ta):=⟨DW ho ha.h⟩
theorem Eo {op} (h:JE X a te):JE X (.BoolOp op [a] pos) te:=⟨xO h.h⟩
theorem Ep (ha:JE X a ta) (hb:JE X (.BoolOp .And (b :: rest) pos) tb):JE X (.BoolOp .And (a :: b :: rest) pos) (vT ta tb):=⟨zd ha.h hb.h⟩
theorem uB {op:CmpOp} {r:R2} (ho:OpR X (compareOp op) r) (ha:JE X a ta) (hb:JE X b tb) (hm:behindInMarks op b=false):JE X (.Compare a [op] [b] pos) (tOp r ta tb):=⟨vv ho ha.h hb.h hm⟩
theorem kE {op:CmpOp} {r:R2} (ho:OpR X (compareOp op) r) (ha:JE X a ta) (hb:JE X b tb) (hm:behindInMarks op b=false):JT X (.Compare a [op] [b] pos) (vB (tOp r ta tb)):=⟨vb ho ha.h hb.h hm⟩
theorem lP (ha:JT X a tA):JW X (.BoolOp .And [a] pos) tA:=⟨pw_and1 ha.h⟩
theorem vX (ha:JT X a tA):JW X (.BoolOp .Or [a] pos) tA:=⟨pw_or1 ha.h⟩
theorem rQ (ha:JT X a tA) (hb:JW X (.BoolOp .And (b :: rest) pos) tB'):JW X (.BoolOp .And (a :: b :: rest) pos) (Ed tA tB'):=⟨pw_and ha.h hb.h⟩
theorem Cd (ha:JT X a tA) (hb:JW X (.BoolOp .Or (b :: rest) pos) tB'):JW X (.BoolOp .Or (a :: b :: rest) pos) (tOr tA tB'):=⟨pw_or ha.h hb.h⟩
theorem eW (h:JW X e tA):JT X e tA:=⟨PW.pt h.h⟩
theorem cW {x1} (h:JA X es t):JE X (.Tuple es x1 pos) (D8 t):=⟨Aj h.h⟩
theorem cA (h:JA X es t):JE X (.List es pos) (CH t):=⟨yG h.h⟩
theorem eIx {r:R2} (hr:IxR X r) (ha:JE X a ta) (hb:JE X b tb) (hs:kI b):JE X (.Subscript a b pos) (tOp r ta tb):=⟨D4 hr ha.h hb.h hs⟩
theorem Cv:JO X none qa:=⟨wa⟩
theorem eP (h:JE X e te):JO X (some e) (Ae te):=⟨wq h.h⟩
theorem eSl {p2:Pos} {lo hi:Option Expr} {tl th:TO} {r:V->Option Int->Option Int->Hp->VK->Prop} (hr:SlR X r) (he:JE X e te) (hl:JO X lo tl) (hu:JO X hi th):JE X (.Subscript e (.Slice lo hi none p2) pos) (tSl r te tl th):=⟨r8 hr he.h hl.h hu.h⟩
theorem E2 {i:Nat} {pos':Pos} (he:JE X e te) (hN:X.N.Nodup) (hi:X.N[i]?=some x) (hx:Loc X.env.scope x) (hs:swapsWith e (some (.Name x pos')) pos.line X.env=pure false) (hf:X.fn x=true\/X.env.scope.names.lookup x=some .local) :
  JS X (.Assign [.Name x pos'] e pos) (pP te (cL i)):=⟨xR hN hi hx he.h hs hf⟩
theorem D6 {tg:Expr} {g:TG} (he:JE X e te) (hg:JG X tg g) (hs:swapsWithSole [tg] e pos.line X.env=pure false) (hw:swappedStores [tg] e X.env=pure none) (h1:(assignEach [tg] X.env).map (·.2)=[assign tg X.env]):JS X (.Assign [tg] e pos) (pP te g):=⟨zA he.h hg.h hs hw h1⟩
theorem Fb {iter tg:Expr} {body:List Stmt} {wi:TI} {g:TG} {tb:TS} (hi:JI X tg iter wi) (hg:JG X tg g) (hb:JSs X body tb) (hp:PassesOwn (model X.prog X.w) X.A X.env X.xe) (hc:X.calm=true) (hs:∀ x,foldedSetIterable iter X.env x=pure x):JS X (.For tg iter body [] pos) (zy wi g tb):=⟨xQ hp hc hi.h hg.h hb.h hs⟩
theorem dJ {a b:List Stmt} {tc:TT} {t u:TS} (hc:JT X c tc) (ha:JSs X a t) (hb:JSs X b u):JS X (.If c a b pos) (CA tc t u):=⟨DK hc.h ha.h hb.h⟩
theorem b0 (he:JE X e te):JS X (.Return (some e) pos) (DV te):=⟨AO he.h⟩
theorem eGN {i:Nat} (hN:X.N.Nodup) (hi:X.N[i]?=some x) (hx:Loc X.env.scope x) (hf:X.fn x=true\/X.env.scope.names.lookup x=some .local):JG X (.Name x pos) (cL i):=⟨gf hN hi hx hf⟩
theorem mI (he:JE X e te) (hs:swapsWith e none pos.line X.env=pure false):JS X (.Expr e pos) (xf te):=⟨vO he.h hs⟩
theorem Eb {o i:Expr} {to ti:TE} {t:Bu} (ho:JE X o to) (hi:JE X i ti) (hs:DC X t) (ha:∀ v,assign (.Subscript o i pos) X.env v=(do
   let ov<-holding [v] (eval o X.env)
   let iv<-holding [v,ov] (eval i X.env)
   standAt pos
   holding [v,ov,iv] (setItem ov iv v)
   release [v,ov,iv] [])):JG X (.Subscript o i pos) (EX to ti t):=⟨zC ho.h hi.h hs ha⟩
theorem da:JSs X [] we:=⟨vi⟩
theorem a8 {s:Stmt} {t:TS} (h:JS X s t):JSs X [s] t:=⟨wg h.h⟩
theorem aw {s:Stmt} {rest:List Stmt} {t u:TS} (h:JS X s t) (hr:JSs X rest u):JSs X (s :: rest) (Ef t u):=⟨tS h.h hr.h⟩
theorem C9 {elt iter:Expr} {px:Pos} {ifs:List Expr} {scope:Scope} {wi:TI} {tt:TT} {js:List Nat} (ys:List Str) (hi:JI X (.Name x px) iter wi) (ht:JTs X (x :: ys) scope ifs tt) (he:JC X (x :: ys) scope elt te)
  (hc:X.calm=true) (B:fz X scope x) (nd:(x :: ys).Nodup) (cap:cz X scope ys js) (hs:∀ x,foldedSetIterable iter X.env x=pure x):JE X (.ListComp elt [⟨.Name x px,iter,ifs,0⟩] scope pos) (nu js wi tt te):=⟨vI hc hi.h B nd cap ht.h he.h hs⟩
theorem zM {elt iter:Expr} {y:Str} {px py spos:Pos} {ifs:List Expr} {scope:Scope} {wi:TI} {tt:TT} {js:List Nat} {i:Nat} (ys:List Str) (hi:JI X (.Name x px) iter wi) (ht:JTs X (x :: ys) scope ifs tt) (he:JC X (x :: ys) scope elt te)
  (hN:X.N.Nodup) (hi':X.N[i]?=some y) (hy:X.env.scope.names.lookup y=some .local) (hsw:swapsWith (.ListComp elt [⟨.Name x px,iter,ifs,0⟩] scope pos) (some (.Name y py)) spos.line X.env=pure true)
  (hc:X.calm=true) (B:fz X scope x) (nd:(x :: ys).Nodup) (cap:cz X scope ys js) (hs:∀ x,foldedSetIterable iter X.env x=pure x):JS X (.Assign [.Name y py] (.ListComp elt [⟨.Name x px,iter,ifs,0⟩] scope pos) spos) (pP (nu js wi tt te) (cL i)):=⟨vp hN hi' hy hsw hc hi.h B nd cap ht.h he.h hs⟩
theorem eC {N:List Str} {scope:Scope} (h:∀ C s3 H3 ex,JE (cxB X N scope C s3 H3 ex) e te):JC X N scope e te:=⟨fun C s3 H3 ex=>(h C s3 H3 ex).h⟩
theorem eT0 {N:List Str} {scope:Scope}:JTs X N scope [] DH:=⟨fun _ _ _ _=>vA⟩
theorem eBM {apos cpos:Pos} {o:Expr} {name:Str} {to:TE} {r:V->List V->Hp->VK->Prop} (ho:JE X o to) (ha:JA X (e :: es) t) (hm:MtR X id r) (pa:PlainAttrs T) (slot:Slot T name id) (hty:typeOf (.builtin id)=pure (.type "method_descriptor"))
  (hbase:attributeBase o name X.env (eval o X.env)=eval o X.env)
  (hfew:((backTo cpos (starEach (e :: es) X.env)).all (fun x=>!x.1)&&(backToKw cpos (keywordEach [] X.env)).all (fun x=>x.1.isSome)
   && decide ((e :: es).length+([]:List Keyword).length+(if ([]:List Keyword).isEmpty then 0 else 1) < 30))=true)
  (hline:(apos.endLine==cpos.line)=true) (h1:PySem.W.isStarred e=false) (h2:es.all (fun e=>!PySem.W.isStarred e)=true):JE X (.Call (.Attribute o name apos) (e :: es) [] cpos) (tBM X.K T r to t):=⟨BM pa slot hty hm ho.h ha.h hbase hfew hline (bG h1) (cN h2)⟩
end
open PySem.Spec PyProof.Rows
noncomputable def isS:PyData->Bool | .str _=>true | _=>false
noncomputable def isL:PyData->Bool | .list _=>true | _=>false
theorem wc {b:Bool} {A B:Prop} (e:b=true) (h:A):if b=true then A else B:=by rw [Gs e];exact h
theorem jY {b:Bool} {A B:Prop} (e:b=false) (h:B):if b=true then A else B:=by rw [Gy (by rw [e];exact GV)];exact h
theorem iC {b:Bool} {A B:Prop} (h1:b=true->A) (h2:b=false->B):if b=true then A else B:=by
 cases b with
 | true=>rw [Gs rfl];exact h1 rfl
 | false=>rw [Gy GV];exact h2 rfl
section
variable {r r':R2} {x y:V} {H:Hp} {Q:VK}
theorem xK {K:Fg} {z:Str} (l:z.length<=sizeLine) (h:Q (.int z.length) H):Bb K [.str z] H Q:=⟨_,_,rfl,⟨l,rfl⟩,h⟩
theorem yR {K:Fg} {p:Addr} {xs:List V} (s:SqL K H p xs) (h:Q (.int xs.length) H):Bb K [.ref p] H Q:=⟨_,_,rfl,.inl ⟨xs,s,rfl⟩,h⟩
theorem yo {K:Fg} {p:Addr} {xs:List V} (s:SqT K H p xs) (h:Q (.int xs.length) H):Bb K [.ref p] H Q:=⟨_,_,rfl,.inr ⟨xs,s,rfl⟩,h⟩
theorem Cy {i:Int} (h:Q (.int (if i < 0 then -i else i)) H):Cz [.int i] H Q:=⟨i,rfl,h⟩
end
theorem Fun.okJ {P:Program} {w:World} {K:Fg} {mg:Str->Option Value} {base:Heap} {x qual:Str} {st:Stmt} {f:Addr} {fd:FuncData} {N ps:List Str} {k:Nat} {sp:Sp} (F:Fun K x qual st f fd) (S:aq N ps (aa st)) (len:∀ vs H Q E,sp vs H Q E->vs.length=ps.length)
  (hbody:∀ (cdv:Value) (A:Around) (outer:List Env) (s:Shared) (H:Hp) (vs:List V) (Q:VK) (E:XK),eD k (A.deeper (envOfC qual (aa st) s.heap.objs.size f cdv))->sp vs H Q E ->
   ∃ t,JSs (sJ CX0 P w K mg base N qual (aa st) f cdv A outer s H E).nox (cp st) t/\t { nx:=fun _ H'=>Q .non H',rt:=Q } (start N vs) H):bN P w K mg base CX0 (k+1) f fd ps sp :=
 F.ok S len fun cdv A outer s H vs Q E hr h=>let ⟨t,j,q⟩:=hbody cdv A outer s H vs Q E hr h;⟨t,j.h,q⟩
theorem bQ:∀ {ss:List Str} {us:List Value},Vals (ss.map V.str) us->StrsAre us ss
 | [],_,r=>by cases r;exact .nil
 | s :: ss,_,r=>by
  cases r with
  | cons r1 r2 =>
   obtain ⟨t,rfl⟩:=r1;exact .cons _ _ (bQ r2)
theorem n4:∀ {ss:List Str} {us:List Value},StrsAre us ss->Vals (ss.map V.str) us
 | [],_,r=>by cases r;exact .nil
 | s :: ss,_,r=>by
  cases r with
  | cons _ _ r2=>exact .cons ⟨_,rfl⟩ (n4 r2)
section
variable {X:Cx}
def zI (K:Fg):List V->Hp->VK->Prop:=fun xs H Q=>∃ p ys,xs=[.ref p]/\(SqL K H p ys\/SqT K H p ys)/\∀ l,H l=none->Q (.ref l) (upd H l (.lst ys))
def tY (K:Fg):List V->Hp->VK->Prop:=fun xs H Q=>∃ p ys,xs=[.ref p]/\((SqL K H p ys/\∀ l,H l=none->Q (.ref l) (upd H l (.tup ys)))\/(SqT K H p ys/\Q (.ref p) H))
def yA:List V->Hp->VK->Prop:=fun xs H Q=>∃ i j,xs=[.int i,.int j]/\Q (.int (if j < i then j else i)) H
def yq:R2:=fun x y H Q=>y=.non/\Q (.bl (!decide (x=.non))) H
theorem mR:az X (.type "list") (zI X.K):=jE
theorem kh:az X (.type "tuple") (tY X.K):=iS
theorem mT (hc:X.calm=true):az X (.builtin "min") yA:=qj hc
theorem tN:OpR X (compareOp .IsNot) yq:=wG
end
structure gr (X:Cx) (scope:Scope) (xs:List Str):Prop where
 kind:scope.kind=.function
 cells:∀ y∈scope.names,y.2≠.cell
 locs:∀ y∈scope.names,y.2=.local->scope.names.lookup y.1=some .local
 free:∀ y∈scope.names,y.2=.free->X.env.scope.names.lookup y.1=some .cell
noncomputable def e6 (xs:List Str):St:=xs.map fun _=>none
theorem mY {X:Cx} {pins:List (Addr×Obj)} {σ:St} {H:Hp} {s3:Shared} {h1:Heap} {tk:Nat} {scope:Scope} {xs ys:List Str} {js:List Nat} {ex:List Addr} (I:Inv X pins σ H s3) (hc:X.calm=true) (B:gr X scope xs) (cap:cz X scope ys js)
  (hns:h1.Ns s3.heap.objs.size (fun _=>none)) (hk:∀ b o,s3.heap.get? b=some o->h1.get? b=some o)
  (hex:∀ b∈ex,b ∉ frs X.stack/\b < s3.heap.objs.size/\(∀ y c,X.env.cells.lookup y=some c->c≠b)/\X.base.get? b=none) :
  Inv (cxB X (xs++ys) scope s3.heap.objs.size s3 H ex) [] (e6 xs++aY js σ) H { s3 with heap:=h1,toks:=tk }:=by
 have hfree:∀ y∈scope.names,y.2=.free->∃ c,X.env.cells.lookup y.1=some c:=fun y hy hf=>I.ok.has y.1 (.inl (B.free y hy hf));have sub:=i3 (env:=X.env) scope.names [] hfree (fun _ _ e=>by simp at e)
 refine ⟨⟨I.ok.mod,B.kind,I.ok.glob,I.ok.blt,Gu _,fun y z c h1 h2=>I.ok.inj y z c (sub _ _ h1) (sub _ _ h2),fun y hy=>?_,fun y c hf _=>?_,fun _=>I.ok.hd hc,I.ok.frames,.inl rfl,fun b hb=>?_,fun b o e=>I.bs b o e,GU I.ok.bsz I.sz,fun b o e hb=>?_,fun b hb=>(hex b hb).1,I.stack,I.k9⟩,
  rfl,I.bare,Un.kept hk,⟨_,hns,fun i y v e1 e2 e3=>?_⟩,fun y c e=>?_,I.hok.fresh (Gu _),fun y c e=>I.fD y c (sub _ _ e),fun p hp=>absurd (show p∈([]:List (Addr×Obj)) from hp) (by simp),I.hok.kept hk,?_⟩
 ·have hy:(relabel scope X.env).names.lookup y=some .cell\/(relabel scope X.env).names.lookup y=some .free:=hy;rcases hy with hy | hy
  ·rcases aN _ hy with q | ⟨_,q⟩
   ·exact absurd rfl (B.cells _ q)
   ·exact ck _ _ q
  ·rcases aN _ hy with q | ⟨q,_⟩
   ·exact ck _ _ q
   ·cases q
 ·exact absurd (show false=true from hf) (by simp)
 ·exact ⟨GK (hex b hb).2.1,fun y c e=>(hex b hb).2.2.1 y c (sub _ _ e)⟩
 ·have e':X.base.get? b=some o:=e;have:=(hex b hb).2.2.2;rw [e'] at this;cases this
 ·have hnl:(e6 xs).length=xs.length:=by unfold e6;rw [Gg]
  by_cases hi:i < xs.length
  ·rw [Gz (by rw [hnl];exact hi)] at e2;unfold e6 at e2;rw [GB,Gd hi] at e2;cases e2
  ·have hi':xs.length<=i:=Nat.le_of_not_lt hi;have e1':ys[i - xs.length]?=some y:=by
    have e1:(xs++ys)[i]?=some y:=e1
    rwa [Gj hi'] at e1
   have e2':(aY js σ)[i - xs.length]?=some (some v):=by
    rwa [Gj (by rw [hnl];exact hi'),hnl] at e2
   obtain ⟨j,ej,en,ec,ef⟩:=cap.get e1';have e4:σ[j]?=some (some v):=by
    unfold aY at e2';rw [GB,ej] at e2';simp only [Option.map_some,Jo] at e2';cases q:σ[j]? with
    | none=>rw [q] at e2';cases e2'
    | some w=>rw [q] at e2';simp at e2';rw [e2']
   obtain ⟨m,hn,hl⟩:=I.loc;obtain ⟨u,r,l⟩:=hl j y v en e4 (.inr (.inl ec));refine ⟨u,r,.inr ?_⟩;rcases l with ⟨kl,_⟩ | ⟨kc,c,ecl,cell⟩
   ·have kl:X.env.scope.names.lookup y=some .local:=kl;rw [ec] at kl;cases kl
   ·have e3:(relabel scope X.env).names.lookup y=some .local\/(relabel scope X.env).names.lookup y=some .cell\/(relabel scope X.env).names.lookup y=some .free:=e3;refine ⟨?_,?_⟩
    ·rcases e3 with q | q | q
     ·rcases aN _ q with q | ⟨q,_⟩
      ·have:=B.locs _ q rfl;rw [ef] at this;cases this
      ·cases q
     ·exact .inl q
     ·exact .inr q
    ·have mem:(y,NameKind.free)∈scope.names:=Ii ef;obtain ⟨c',ec'⟩:=ck (env:=X.env) scope.names [] mem;have:=sub _ _ ec';rw [ecl] at this;cases this;obtain ⟨o,ho,hd⟩:=cell;exact ⟨c,ec',o,hk _ _ ho,hd⟩
 ·obtain ⟨v,o,ho,hd⟩:=I.cell y c (sub _ _ e);exact ⟨v,o,hk _ _ ho,hd⟩
 ·show (e6 xs++aY js σ).length=(xs++ys).length;rw [Gf,Gf,cap.len];unfold aY e6;rw [Gg,Gg]
def qc (n:List Str) (js:List Nat) (wi:TI) (g:TG) (te:TE):TE:=fun σ H Q=>wi σ H fun J H1=>∃ W:Nat->Nat->St->List V->Hp->Prop,(∃ m,W 0 m (e6 n++aY js σ) [] H1)/\∀ i m σB acc H,W i m σB acc H ->
 (J.stop i H/\acc.length<=sizeLine/\∀ p,H p=none->Q (.ref p) (upd H p (.lst acc)))\/(J.go i H/\acc.length < sizeLine/\∀ x H',J.yld i H x H' ->
  g x σB H' fun σ2 H2=>te σ2 H2 fun y H3=>∃ m',m' < m/\W (i+1) m' σ2 (acc++[y]) H3)
theorem qx {X:Cx} {pins:List (Addr×Obj)} {σ:St} {H:Hp} {s2:Shared} {elt iter:Expr} {es:List Expr} {ek} {tp pos:Pos} {scope:Scope} {g:TG} {te:TE} {xs ys:List Str} {js:List Nat} {it:Addr} {fp:List Addr} {tn:Nat->Heap->Prop} {J:It}
    {Q:VK} {E:Value->Shared->Prop} {RR:Value->Addr->Result->Shared->Prop} (hc:X.calm=true) (B:gr X scope xs) (cap:cz X scope ys js)
    (hg:∀ C s3 H3 ex,PG (cxB X (xs++ys) scope C s3 H3 ex) (.Tuple es ek tp) g) (he:∀ C s3 H3 ex,PE (cxB X (xs++ys) scope C s3 H3 ex) elt te)
    (I:Inv X pins σ H s2) (T:Turn X.prog X.w X.K (.Tuple es ek tp) J fp it tn) (h0:tn 0 s2.heap) (hf:∀ b∈fp,qY X pins H b)
    (W:Nat->Nat->St->List V->Hp->Prop) (w0:∃ m,W 0 m (e6 xs++aY js σ) [] H)
    (turn:∀ i m σB acc H,W i m σB acc H->(J.stop i H/\acc.length<=sizeLine/\∀ p,H p=none->Q (.ref p) (upd H p (.lst acc)))\/(J.go i H/\acc.length < sizeLine/\∀ x H',J.yld i H x H' ->
      g x σB H' fun σ2 H2=>te σ2 H2 fun y H3=>∃ m',m' < m/\W (i+1) m' σ2 (acc++[y]) H3))
    (hRR:∀ (D C:Addr) (H':Hp) (s':Shared) (m':Str->Option Value),s'.heap.Ns C m'->s2.heap.objs.size<=C->C≠D->H' C=none->Inv X pins σ H' s'->Q (.ref D) H'->RR (.ref D) C (.ok .next) s') :
    wpAny (model X.prog X.w) X.A (newList []) (fun acc s₃=>wpAny (model X.prog X.w) X.A (newFunctionEnv scope X.env.globals (jq X.env scope.names []) [] X.env.qual none .none (some X.env)) (fun cenv s₄ =>
      codeAny (model X.prog X.w) X.A (.compStart (.ListComp elt [⟨.Tuple es ek tp,iter,[],0⟩] scope pos) 0 (.ref it) acc { cenv with scope:=relabel scope X.env }) (RR acc cenv.locals) s₄) E s₃) E s2:=by
  refine HA (wpAny_newFunctionEnv B.cells (by intro y hy;simp at hy) (fun h1 hns hsb=>?_) B.kind);dsimp only at hns hsb ⊢;have hD:H s2.heap.objs.size=none:=I.hok.fresh (Gu _);generalize hH2:s2.heap.push { cls:=.type "list", dict:=none,data:=.seq ([]:List Value).toArray }=P2 at hns hsb ⊢;have hgetD:P2.get? s2.heap.objs.size=some { cls:=.type "list", dict:=none,data:=.seq ([]:List Value).toArray }:=by rw [<- hH2];exact GR _ rfl
  have hold:∀ b o,s2.heap.get? b=some o->P2.get? b=some o:=fun b o e=>by rw [<- hH2];exact Gq _ e
  have hsz:P2.objs.size=s2.heap.objs.size+1:=by rw [<- hH2,IU]
  have I3:Inv X pins σ H { s2 with heap:=P2,toks:=s2.toks }:=I.kept hold;generalize hDe:s2.heap.objs.size=D at *;have keep1:∀ b o,P2.get? b=some o->h1.get? b=some o:=fun b o e=>hsb.extBut b o (GK (GA e)) (Gq _ e);have hfp:∀ b∈fp,b < D:=fun b hb=>by
    obtain ⟨o,e,_⟩:=T.obj _ _ h0 b hb;rw [<- hDe];exact GA e
  have hstk:∀ b,b≠X.env.locals->b ∉ X.fs->b ∉ frs X.stack:=fun b h1 h2 z=>(Gv.mp (I.ml b z)).elim h1 h2;have hDl:D≠X.env.locals:=fun z=>absurd I.lt (by rw [hDe,z];exact Hd _);have hDfs:D ∉ X.fs:=I.Br (by rw [hDe];exact Gu _);have hDc:∀ y c,X.env.cells.lookup y=some c->c≠D:=fun y c e z=>by
    obtain ⟨v,q⟩:=I.cell y c e;have:=q.lt;rw [z,hDe] at this;exact absurd this (Hd _)
  have hex:∀ b∈D :: fp,b ∉ frs X.stack/\b < ({ s2 with heap:=P2,toks:=s2.toks }:Shared).heap.objs.size/\(∀ y c,X.env.cells.lookup y=some c->c≠b)/\X.base.get? b=none:=fun b hb=>by
    rcases Gv.mp hb with rfl | hb
    · refine ⟨hstk _ hDl hDfs,by show _ < P2.objs.size;rw [hsz];exact Ia _,hDc,?_⟩;cases q:X.base.get? b with
      | none=>rfl
      | some o =>
        have:=GA (I.bk b o q);rw [hDe] at this;exact absurd this (Hd _)
    · obtain ⟨f0,f1,f2,f3,f4,f5⟩:=hf b hb;refine ⟨hstk _ f1 f2,by show _ < P2.objs.size;rw [hsz];exact Hj (hfp b hb),f4,?_⟩;cases q:X.base.get? b with
      | none=>rfl
      | some o =>
        rcases f3 with z | z
        · exact absurd z (I.ok.xq b o q)
        · exact absurd (GD (GA q) (GU I.ok.bsz z)) (Hd _)
  have IB:=mY (tk:=s2.toks) (ex:=D :: fp) I3 hc B cap (h1:=h1) hns keep1 hex;have hCD:P2.objs.size≠D:=by rw [hsz];exact Nat.succ_ne_self _
  have start:codeAny (model X.prog X.w) X.A (.compLoop (.ListComp elt [⟨.Tuple es ek tp,iter,[],0⟩] scope pos) 0 (.ref it) (.ref D) (compEnvC scope (jq X.env scope.names []) P2.objs.size X.env)) (RR (.ref D) P2.objs.size) { s2 with heap:=h1,toks:=s2.toks }:=by
    obtain ⟨m0,w0⟩:=w0;refine LCp.codeAny_compLoop_pair (fun n s=>∃ i σB H' acc its k,Inv (cxB X (xs++ys) scope P2.objs.size { s2 with heap:=P2,toks:=s2.toks } H (D :: fp)) [] σB H' s/\tn i s.heap/\(∀ b∈D :: fp,H' b=none)/\s.heap.get? D=some { cls:=.type "list", data:=.seq its k }/\Vals acc its.toList/\acc.length<=sizeLine/\W i n σB acc H') ?_ m0 ?_
    · rintro n s ⟨i,σB,H3,acc,its,k,I4,t4,fr4,g4,va,hl4,w4⟩;have hDm:D∈D :: fp:=Gm;have exf:=I4.ok.exf;have fsub:∀ b∈D :: fp,b ∉ (cxB X (xs++ys) scope P2.objs.size { s2 with heap:=P2,toks:=s2.toks } H (D :: fp)).fs:=fun b hb=>(hex b hb).1;have stat:∀ {H':Hp} {ob:Obj},(∀ b∈fp,H' b=none)->∀ b∈fp,qY (cxB X (xs++ys) scope P2.objs.size { s2 with heap:=P2,toks:=s2.toks } H (D :: fp)) [(D,ob)] H' b:=fun {H' ob} hn b hb =>
        ⟨hn b hb,(exf b (Gp _ hb)).1,fsub b (Gp _ hb),.inl (Gp _ hb),(exf b (Gp _ hb)).2,fun p hp z=>by
          have hp':p∈[(D,ob)]:=hp;have e:=Gn.mp hp';rw [e] at z
          exact absurd (hfp b hb) (by rw [<- show D=b from z];exact Hd _)⟩
      have frp:∀ b∈fp,H3 b=none:=fun b hb=>fr4 b (Gp _ hb);have I5:Inv (cxB X (xs++ys) scope P2.objs.size { s2 with heap:=P2,toks:=s2.toks } H (D :: fp)) [(D,{ cls:=.type "list", data:=.seq its k })] σB H3 s:=I4.cC fun p hp=>by
        rw [Gn.mp hp];exact ⟨g4,fr4 D hDm,(exf D hDm).1,fsub D hDm,fun v z=>nomatch z⟩
      rcases turn i n σB acc H3 w4 with ⟨stop,hacc,q⟩ | ⟨go,hacc,step⟩
      · refine Hg (T.done (cxB X (xs++ys) scope P2.objs.size { s2 with heap:=P2,toks:=s2.toks } H (D :: fp)) rfl rfl rfl rfl i _ s _ H3 (fun _ _=>False) I5 (stat frp) t4 stop) (fun r s1 ⟨hr,I6⟩=>?_) (fun _ _ z=>z.elim);subst hr;obtain ⟨m',hn',_⟩:=id I6.loc;have pD:=(I6.pin (D,{ cls:=.type "list", data:=.seq its k }) (Gr _ (Gn.mpr rfl))).1;have nD:H3 D=none:=fr4 D hDm;have u:=I6.base;have uu:Un (frs X.stack) (D :: fp) H (upd H3 D (.lst acc)) P2 s1.heap :=
          ⟨u.keep,u.slot,fun b o q n hx=>by rw [ag fun z=>hx (by rw [z];exact hDm)];exact u.free b o q n hx,u.there,
           fun b xs q=>by rw [ag (ak (u.nB b xs q) nD)];exact u.nB b xs q,fun b o v q=>by rw [ag (ak (u.mV b o v q) nD)];exact u.mV b o v q,
           fun b ps q=>by
            obtain ⟨more,z⟩:=u.qT b ps q
            exact ⟨more,by rw [ag (ak z nD)];exact z⟩⟩
        have hok:HOk X.prog X.w (upd H3 D (.lst acc)) s1.heap:=fun b o e=>by
          by_cases hb:b=D
          · subst hb;rw [ai] at e;cases e;exact ⟨hacc,its.toList,k,va,by rw [Jd];exact pD⟩
          · rw [ag hb] at e;exact (I6.hok b o e).jo (fun c v _ q=>q) (fun c q=>by rw [ag (ak q nD)];exact q) fun c xs q=>by rw [ag (ak q nD)];exact q
        have fin:=I3.call (g':=s1.gens) (t':=s1.toks) (d':=s1.drawn) uu hok I6.bare (fun b hb=>by
          rcases Gv.mp hb with z | hb
          · rw [z];refine ⟨.inr (by rw [<- hDe];exact I.sz),hDl,hDc,fun p hp z=>?_⟩;have:=GA (I.pin p hp).1;rw [z,hDe] at this;exact Hd _ this
          · exact ⟨(hf b hb).2.2.2.1,(hf b hb).2.1,(hf b hb).2.2.2.2.1,(hf b hb).2.2.2.2.2⟩)
        have es':({ heap:=s1.heap,gens:=s1.gens,drawn:=s1.drawn,toks:=s1.toks,os:=s2.os }:Shared)=s1:=by
          have:=I6.os;obtain ⟨a1,a2,a3,a4,a5⟩:=s1;have e5:a5=s2.os:=this;rw [e5]
        have fin':Inv X pins σ (upd H3 D (.lst acc)) s1:=es'▸fin;exact hRR D P2.objs.size (upd H3 D (.lst acc)) s1 m' hn' (by rw [hsz];exact HW _) hCD (by rw [ag hCD];exact I6.free) fin' (q D nD)
      · refine Hg (T.item (cxB X (xs++ys) scope P2.objs.size { s2 with heap:=P2,toks:=s2.toks } H (D :: fp)) rfl rfl rfl rfl i _ s _ H3 (fun _ _=>False) I5 (stat frp) t4 go) (fun r s1 ⟨u,hr,h4⟩=>?_) (fun _ _ z=>z.elim);subst hr;refine Hg h4 (fun _ s1' ⟨x',H5,I6,r6,y6,t6,fr6⟩=>?_) (fun _ _ z=>z.elim);have I7:=I6.pinned (stat fr6) (T.obj _ _ t6);refine Hg (hg _ _ _ _ _ s1' _ H5 x' u _ I7 r6 (step x' H5 y6)) (fun _ s2' ⟨σ6,H6,I8,q8⟩=>?_) (fun _ _ z=>z.elim);have pinsKeep:∀ {σ':St} {H':Hp} {s':Shared},Inv (cxB X (xs++ys) scope P2.objs.size { s2 with heap:=P2,toks:=s2.toks } H (D :: fp)) ([(D,{ cls:=.type "list", data:=.seq its k })]++iy fp s1'.heap) σ' H' s' ->
            s'.heap.get? D=some { cls:=.type "list", data:=.seq its k }/\(∀ b∈D :: fp,H' b=none)/\∀ b∈fp,∀ o,s1'.heap.get? b=some o->s'.heap.get? b=some o:=fun {σ' H' s'} J=>by
          have pd:=J.pin (D,{ cls:=.type "list", data:=.seq its k }) (Gr _ (GQ _ (Gn.mpr rfl)));refine ⟨pd.1,fun b hb=>?_,fun b hb o e=>(J.pin (b,o) (Gr _ (Gr _ (bz hb e)))).1⟩;rcases Gv.mp hb with rfl | hb
          · exact pd.2.1
          · obtain ⟨o,e,_⟩:=T.obj _ _ t6 b hb;exact (J.pin (b,o) (Gr _ (Gr _ (bz hb e)))).2.1
        refine Hg (he _ _ _ _ _ s2' _ _ _ I8 q8) (fun y s4' ⟨yv,H8,I10,ry,m',hm,w10⟩=>?_) (fun _ _ z=>z.elim);obtain ⟨p1,p2,p3⟩:=pinsKeep I10;have hsize:its.size=acc.length:=by rw [va.length];simp
        have I11:=I10.cC (pins':=[]) (fun p hp=>absurd hp (by simp));refine wpAny_list_append_plain ⟨k,p1⟩ (fun h' hpl hsame=>?_) (by rw [hsize];exact Jg hacc);obtain ⟨k',e'⟩:=hpl;have neD:∀ {b:Addr} {o:HO},H8 b=some o->b≠D:=fun e z=>by rw [z,p2 D hDm] at e;cases e
        refine ⟨m',hm,i+1,σ6,H8,acc++[yv],its.push y,k',?_,?_,p2,e',?_,?_,w10⟩
        · refine I11.step (g':=s4'.gens) (t':=s4'.toks) (d':=s4'.drawn) (ch:=[D]) (fun b hb=>?_) (fun b o _ _ hc' e _=>?_) (fun b o _ _ hc' e _=>⟨o.slots,?_⟩) (fun b o hc' e n=>n) (fun b o hc' e=>⟨o,?_⟩) (fun _ _ z=>z) (fun _ _ _ z=>z) (fun b ps z=>⟨#[],by rw [z];simp⟩) (fun m hn=>hn.sameBut hsame (Ne.symm (exf D hDm).1)) (fun b o e=>?_) I11.bare
          · rw [Gn.mp hb];exact ⟨.inl hDm,(exf D hDm).1,(exf D hDm).2,fun p hp=>absurd (show p∈([]:List (Addr×Obj)) from hp) (by simp)⟩
          · exact (hsame.2 b fun z=>hc' (Gn.mpr z)).trans e
          · exact (hsame.2 b fun z=>hc' (Gn.mpr z)).trans e
          · exact (hsame.2 b fun z=>hc' (Gn.mpr z)).trans e
          · refine (I11.hok b o e).jo (fun c v hc' q=>(hsame.2 c ?_).trans q) (fun _ q=>q) fun _ _ q=>q;rcases hc' with z | z
            · rw [z];exact neD e
            · exact neD z
        · refine T.keep _ _ _ t6 fun b hb o e=>(hsame.2 b ?_).trans (p3 b hb o e);exact GK (hfp b hb)
        · rw [IV];exact va.append (.cons ry .nil)
        · rw [Gf,JD];exact hacc
    · refine ⟨0,e6 xs++aY js σ,H,[],#[],_,IB,T.keep _ _ _ h0 (fun b hb o e=>keep1 b o (hold b o e)),fun b hb=>?_,keep1 _ _ hgetD,.nil,Hn _,w0⟩;rcases Gv.mp hb with rfl | hb
      · exact hD
      · exact (hf b hb).1
  exact codeAny_compStart_list start (T.self _ 0 _ _ _ (T.keep _ _ _ h0 (fun b hb o e=>keep1 b o (hold b o e))) start)
theorem tQ {X:Cx} {elt iter:Expr} {es:List Expr} {ek} {tp pos:Pos} {scope:Scope} {wi:TI} {g:TG} {te:TE} {xs ys:List Str} {js:List Nat} (hc:X.calm=true) (hi:PI X (.Tuple es ek tp) iter wi) (B:gr X scope xs) (cap:cz X scope ys js)
  (hg:∀ C s3 H3 ex,PG (cxB X (xs++ys) scope C s3 H3 ex) (.Tuple es ek tp) g) (he:∀ C s3 H3 ex,PE (cxB X (xs++ys) scope C s3 H3 ex) elt te) (hs:∀ x,foldedSetIterable iter X.env x=pure x) :
  PE X (.ListComp elt [⟨.Tuple es ek tp,iter,[],0⟩] scope pos) (qc xs js wi g te):=by
 intro pins s σ H Q I h;have hcl:=eM (scope:=scope) (env:=X.env) fun y hy hf=>I.ok.has y.1 (.inl (B.free y hy hf));rw [eval_ListComp];refine wpAny_comprehension_free (use:=none) rfl hs hcl B.kind B.locs (Hg (hi pins s σ H _ I h) (fun xv s1 h1=>Hg h1 (fun itv s2 h2=>?_) fun _ _ e=>e) fun _ _ e=>e);obtain ⟨it,fp,tn,J,H2,e,I2,T,st2,f2,W,w0,turn⟩:=h2;subst e;refine qx (RR:=fun acc C=>compPost (model X.prog X.w) X.A X.xe none (EP X pins σ Q) acc C) hc B cap hg he I2 T st2 f2 W w0 turn ?_;intro D C H' s' m' hn hC hCD hCn I' q;refine ⟨m',hn,fun h' hs'=>⟨.ref D,H',?_,rfl,q⟩⟩;have hL:X.env.locals≠C:=GK (GD I2.lt hC);have neC:∀ {b:Addr} {o:HO},H' b=some o->b≠C:=fun e z=>by rw [z,hCn] at e;cases e
 refine I'.step (g':=s'.gens) (t':=s'.toks) (d':=s'.drawn) (ch:=[C]) (fun b hb=>?_) (fun b o _ _ hc' e _=>?_) (fun b o _ _ hc' e _=>⟨o.slots,?_⟩) (fun b o hc' e n=>n) (fun b o hc' e=>⟨o,?_⟩) (fun _ _ z=>z) (fun _ _ _ z=>z) (fun b ps z=>⟨#[],by rw [z];simp⟩) (fun m hn=>hn.sameBut hs' hL) (fun b o e=>?_) I'.bare
 ·rw [Gn.mp hb];refine ⟨.inr (GU I2.sz hC),Ne.symm hL,fun y c e z=>?_,fun p hp z=>?_⟩
  ·obtain ⟨v,q⟩:=I2.cell y c e;have:=q.lt;rw [z] at this;exact absurd (GD this hC) (Hd _)
  ·have:=GA (I2.pin p hp).1;rw [z] at this;exact absurd (GD this hC) (Hd _)
 ·exact (hs'.2 b fun z=>hc' (Gn.mpr z)).trans e
 ·exact (hs'.2 b fun z=>hc' (Gn.mpr z)).trans e
 ·exact (hs'.2 b fun z=>hc' (Gn.mpr z)).trans e
 ·refine (I'.hok b o e).jo (fun c v hc' q=>(hs'.2 c ?_).trans q) (fun _ q=>q) fun _ _ q=>q;rcases hc' with z | z
  ·rw [z];exact neC e
  ·exact neC z
structure JGs (X:Cx) (N:List Str) (scope:Scope) (es:List Expr) (t:TGs):Prop where
 h:∀ C s3 H3 ex,PGs (cxB X N scope C s3 H3 ex) es t
theorem Ft {X:Cx} {N:List Str} {scope:Scope}:JGs X N scope [] Bp:=⟨fun _ _ _ _=>pq⟩
theorem EG {X:Cx} {N:List Str} {scope:Scope} {es:List Expr} {u:TGs} {i:Nat} {x:Str} {px:Pos} (nd:N.Nodup) (hi:N[i]?=some x) (hv:scope.names.lookup x=some .local) (h:JGs X N scope es u):JGs X N scope (.Name x px :: es) (tw (cL i) u) :=
 ⟨fun C s3 H3 ex=>lU (gf nd hi (.inl (lookup_relabel_local hv)) (.inr (lookup_relabel_local hv))) (h.h C s3 H3 ex) rfl⟩
theorem Ag {X:Cx} {elt iter:Expr} {es:List Expr} {ek} {tp pos:Pos} {scope:Scope} {wi:TI} {u:TGs} {te:TE} {js:List Nat} {n:Nat} (xs ys:List Str) (hi:JI X (.Tuple es ek tp) iter wi) (hg:JGs X (xs++ys) scope es u) (he:JC X (xs++ys) scope elt te) (hc:X.calm=true) (B:gr X scope xs) (cap:cz X scope ys js)
  (hn:∀ env,(assignEach es env).length=n) (hst:∀ env,(assignEach es env).findIdx? (·.1)=none) (hs:∀ x,foldedSetIterable iter X.env x=pure x) :
  JE X (.ListComp elt [⟨.Tuple es ek tp,iter,[],0⟩] scope pos) (qc xs js wi (Bi X.K n u) te) :=
 ⟨tQ hc hi.h B cap (fun C s3 H3 ex=>tZ rfl (hg.h C s3 H3 ex) (hn _) (hst _)) he.h hs⟩
noncomputable def jD (sc scope:Scope):Bool :=
 (scope.kind==.function)&&scope.names.all (fun y=>y.2 != .cell)&&scope.names.all (fun y=>y.2 != .local||scope.names.lookup y.1==some .local)&&scope.names.all (fun y=>y.2 != .free||sc.names.lookup y.1==some .cell)
theorem Fe {X:Cx} {sc scope:Scope} {xs:List Str} (e:X.env.scope=sc) (h:jD sc scope=true):gr X scope xs:=by
 unfold jD at h;simp only [GY,IZ,JB,bne_iff_ne,Hl,ne_eq] at h;obtain ⟨⟨⟨h1,h2⟩,h3⟩,h5⟩:=h;exact ⟨h1,fun y hy=>h2 y hy,fun y hy e=>(h3 y hy).resolve_left fun z=>z e,fun y hy e'=>by rw [e];exact (h5 y hy).resolve_left fun z=>z e'⟩
def FU (K:Fg) (te:TE):TT:=fun σ H Q=>te σ H fun x H'=>∃ k,Cf K x H' k/\Q k H'
structure JGl (X:Cx) (es:List Expr) (t:TGs):Prop where
 h:PGs X es t
section
variable {X:Cx} {es:List Expr} {t:TGs} {pos:Pos} {x:Str} {i:Nat}
theorem Ew:JGl X [] Bp:=⟨pq⟩
theorem A4 (hN:X.N.Nodup) (hi:X.N[i]?=some x) (hx:Loc X.env.scope x) (hf:X.fn x=true\/X.env.scope.names.lookup x=some .local) (h:JGl X es t):JGl X (.Name x pos :: es) (tw (cL i) t):=⟨lU (gf hN hi hx hf) h.h rfl⟩
theorem eGT {n:Nat} {k} (hc:X.calm=true) (h:JGl X es t) (hn:(assignEach es X.env).length=n) (hst:(assignEach es X.env).findIdx? (·.1)=none):JG X (.Tuple es k pos) (Bi X.K n t):=⟨tZ hc h.h hn hst⟩
end
section
variable {X:Cx}
def tFs:List TE->Str->TE
 | [],out=>fun _ H Q=>out.length<=sizeLine/\Q (.str out) H
 | t :: ts,out=>fun σ H Q=>t σ H fun x H1=>∃ y,x=.str y/\(out++y).length<=sizeLine/\tFs ts (out++y) σ H1 Q
def PFs (X:Cx) (vs:List Expr) (ts:List TE):Prop :=
 ∀ (pins:List (Addr×Obj)) (s:Shared) (σ:St) (H:Hp) (Q:VK) (out:Str),Inv X pins σ H s->tFs ts out σ H Q->wpAny (model X.prog X.w) X.A (joinParts out (evalEach vs X.env)) (EP X pins σ Q) X.xe s
theorem xi:PFs X [] []:=by
 intro pins s σ H Q out I h;exact joinParts_nil ⟨.str out,H,I.tok _,⟨_,rfl⟩,h.2⟩ h.1
theorem rG {v:Expr} {vs:List Expr} {t:TE} {ts:List TE} (hv:PE X v t) (hr:PFs X vs ts):PFs X (v :: vs) (t :: ts):=by
 intro pins s σ H Q out I h;show wpAny _ _ (joinParts out (eval v X.env :: evalEach vs X.env)) _ _ s;refine joinParts_cons (thn (hv pins s σ H _ I h) fun u s1 ⟨x,H1,I1,r1,y,ex,hz,q⟩=>?_);subst ex;obtain ⟨t',rfl⟩:=r1;exact ⟨hz,hr pins s1 σ H1 Q _ I1 q⟩
end
structure JF (X:Cx) (vs:List Expr) (ts:List TE):Prop where
 h:PFs X vs ts
section
variable {X:Cx}
theorem eF0:JF X [] []:=⟨xi⟩
theorem eFc {v:Expr} {vs:List Expr} {t:TE} {ts:List TE} (hv:JE X v t) (hr:JF X vs ts):JF X (v :: vs) (t :: ts):=⟨rG hv.h hr.h⟩
end
def ux (K:Fg):V->List V->Hp->VK->Prop:=fun x vs H Q=>∃ (z:Str) (a:Addr) (ss:List Str),x=.str z/\vs=[.ref a]/\(SqL K H a (ss.map V.str)\/SqT K H a (ss.map V.str))/\(ss.map (·.length)).sum+ss.length*z.length<=16777216/\Q (.str (Txt.join z ss)) H
theorem rD {X:Cx}:MtM X "str.join" (ux X.K):=by
 intro pins s σ H x vs v us Q I rx rv h;obtain ⟨z,a,ss,rfl,rfl,hq,hok,q⟩:=h;obtain ⟨t,rfl⟩:=rx;obtain ⟨u,rfl,ru⟩:=rv.one;cases (show u=Value.ref a from ru);rcases hq with hq | hq
 ·obtain ⟨its,r,p,hz⟩:=I.list hq;exact join_list p.isList (by simpa using bQ r) hok fun t' k=>⟨.str _,H,I.tok k,⟨t',rfl⟩,q⟩
 ·obtain ⟨its,r,p,hz⟩:=I.tuple hq;exact join_tuple p (by simpa using bQ r) hok fun t' k=>⟨.str _,H,I.tok k,⟨t',rfl⟩,q⟩
section
variable {X:Cx}
def Ac (K:Fg):R2:=fun x y H Q=>∃ l b xs zs,x=.ref l/\y=.ref b/\SqL K H l xs/\SqL K H b zs/\xs.length+zs.length<=sizeLine/\∀ p,H p=none->Q (.ref p) (upd H p (.lst (xs++zs)))
theorem wA:OpR X (binaryOp .Add) (Ac X.K):=by
 intro pins s σ H x y v u Q I rx ry h;obtain ⟨l,b,xs,zs,rfl,rfl,hH,hB,hz,q⟩:=h;cases rx;cases ry;obtain ⟨its,r,p,_⟩:=I.list hH;obtain ⟨its2,r2,p2,_⟩:=I.list hB;obtain ⟨⟨cls,dd,data,sl⟩,n,ho,hc,hd0,hd⟩:=p;obtain ⟨⟨cls2,dd2,data2,sl2⟩,n2,ho2,hc2,hd02,hd2⟩:=p2;simp only at hc hd hc2 hd2;subst hc hd hc2 hd2;have e:its.toArray++its2.toArray=(its++its2).toArray:=by simp
 refine concat_meets ⟨_,ho,rfl⟩ ⟨_,ho2,rfl⟩ noFill_list_add seq_list_add PySem.F.slot_list_add PySem.F.entry_list_add (PySem.F.args_list_add_2 _ _) (list_addW l b its.toArray its2.toArray n n2 dd dd2 sl sl2 (by rw [Gw,Gw,<-r.length,<-r2.length];exact hz)) ⟨ho,ho2,?_⟩;rw [e];exact ⟨.ref _,_,I.FY (t':=s.toks) (r.append r2) (by rw [Gf];omega),rfl,q _ I.fresh⟩
theorem jU (l:Addr) (items:Array Value) (n:Nat) (b:Addr) (items2:Array Value) (n2:Nat) (dd2:Option Addr) (sl2:Array (Option Value)) (hc0:¬(!items.isEmpty&&Builtin.List.listTooLong (items.size+items2.size))=true) (hc1:items.size<=sizeLine) (hs2:items.size+items2.size<=sizeLine+1) :
  Meets (Builtin.«list.extend» ⟨[.ref l,.ref b],[]⟩) (fun _ R s=>s.heap.get? l=some { cls:=.type "list", dict:=none,data:=.seq items n,slots:=#[] }/\s.heap.get? b=some { cls:=.type "list", dict:=dd2,data:=.seq items2 n2,slots:=sl2 }/\R (.ok (.ret Value.none)) { s with heap:=s.heap.update l (Obj.mapSeq fun x=>x++items2),toks:=s.toks }) :=
 .of_wp fun prog w A R s h=>by
  obtain ⟨hp,g,d,tk,os⟩:=s;obtain ⟨hl,hb,h⟩:=h;have f1:=AutoSeq1.idx_int;have f2:=AutoSeq1.sub_tuple_tuple;have f3:=AutoSeq1.sub_list_list;have f4:=AutoSeq1.sub_tuple_list;have f5:=AutoSeq1.sub_list_tuple;have hz':(items++items2).size<=sizeLine+1:=by rw [Array.size_append];exact hs2
  wp_walk using (Jx hl rfl (hz:=hc1) (_hz':=hz')),wpAny_loadPart' hl,wpAny_loadPart' hb;exact ⟨_,rfl,h⟩
def lq (K:Fg):V->List V->Hp->VK->Prop:=fun x vs H Q=>∃ l b xs zs,x=.ref l/\vs=[.ref b]/\H l=some (.lst xs)/\SqL K H b zs/\xs.length+zs.length<=sizeLine/\Q .non (upd H l (.lst (xs++zs)))
theorem mW:MtM X "list.extend" (lq X.K):=by
 intro pins s σ H x vs v us Q I rx rv h;obtain ⟨l,b,xs,zs,rfl,rfl,hH,hB,hz,q⟩:=h;cases rx;obtain ⟨u,rfl,ru⟩:=rv.one;cases ru;obtain ⟨z,its,n,r,hl,e⟩:=I.Di hH;obtain ⟨its2,r2,p2,z2⟩:=I.list hB;have hl2:=r2.length;obtain ⟨⟨cls2,dd2,data2,sl2⟩,n2,e2,hc2,hd02,hd2⟩:=p2;simp only at hc2 hd2;subst hc2 hd2;have hsz:its.toArray.size+its2.toArray.size<=sizeLine:=by rw [Gw,Gw];omega
 have hlong:¬(!its.toArray.isEmpty&&Builtin.List.listTooLong (its.toArray.size+its2.toArray.size))=true:=by
  rw [sM hsz,Bool.and_false];exact GV
 refine call_meets F.slot_list_extend ⟨_,e,rfl⟩ F.entry_list_extend (F.args_list_extend_2 _ _) (jU l its.toArray n b its2.toArray n2 dd2 sl2 hlong (by rw [Gw];omega) (by omega)) ⟨e,e2,?_⟩;refine ⟨.non,_,I.Cu (its':=its++its2) hH e (by simp) (r.append r2) ?_,rfl,q⟩;rw [Gf];omega
end
mutual
noncomputable def hkB:PyData->Bool
 | .int _=>true
 | .str _=>true
 | .tuple ds=>q0 ds
 | _=>false
noncomputable def q0:List PyData->Bool
 | []=>true
 | d :: ds=>hkB d&&q0 ds
end
theorem cU:∀ {ds:List PyData},q0 ds=true↔∀ d∈ds,hkB d=true
 | []=>by simp [q0]
 | d :: ds=>by simp [q0,cU (ds:=ds)]
noncomputable def kyB (d:PyData):Bool:=hkB d&&d.canLay0&&decide (d.depth<=6)
noncomputable def hk6 (d:PyData):Bool:=hkB d&&decide (d.depth<=6)
mutual
theorem f7:∀ (d e:PyData),hkB d=true->hkB e=true->(PyData.eqv d e=true↔d=e)
 | .int i,e,_,h=>by
  cases e with
  | int j=>simp [PyData.eqv]
  | str y=>simp [PyData.eqv]
  | tuple es=>simp [PyData.eqv]
  | _=>cases h
 | .str x,e,_,h=>by
  cases e with
  | int j=>simp [PyData.eqv]
  | str y=>simp [PyData.eqv]
  | tuple es=>simp [PyData.eqv]
  | _=>cases h
 | .tuple ds,e,h1,h=>by
  cases e with
  | int j=>simp [PyData.eqv]
  | str y=>simp [PyData.eqv]
  | tuple es=>simp only [PyData.eqv,PyData.tuple.injEq];exact nV ds es h1 h
  | _=>cases h
 | .none,_,h,_=>by cases h
 | .bool _,_,h,_=>by cases h
 | .list _,_,h,_=>by cases h
 | .dict _,_,h,_=>by cases h
theorem nV:∀ (ds es:List PyData),q0 ds=true->q0 es=true->(PyData.eqvAll ds es=true↔ds=es)
 | [],[],_,_=>by simp [PyData.eqvAll]
 | [],_ :: _,_,_=>by simp [PyData.eqvAll]
 | _ :: _,[],_,_=>by simp [PyData.eqvAll]
 | d :: ds,e :: es,h1,h2=>by
  simp only [q0,GY] at h1 h2;rw [PyData.eqvAll,GY,f7 d e h1.1 h2.1,nV ds es h1.2 h2.2,List.cons.injEq]
end
theorem gc {d:PyData} {ds:List PyData} (h:d∈ds):d.depth+1<=(PyData.tuple ds).depth:=by
 have:∀ {ds:List PyData},d∈ds->d.depth<=PyData.depthAll ds:=by
  intro ds;induction ds with
  | nil=>intro h;cases h
  | cons x xs ih =>
   intro h;rw [PyData.depthAll];rcases Gv.mp h with rfl | h
   ·exact Nat.le_max_left _ _
   ·exact GU (ih h) (Nat.le_max_right _ _)
 rw [PyData.depth];have:=this h;omega
theorem bq {h:Heap}:∀ {vs:List Value} {ds:List PyData} {as:List Addr},ReadsAll h vs ds as->vs.length=ds.length/\∀ (i:Nat) (v:Value),vs[i]?=some v->∃ d bs,ds[i]?=some d/\Reads h v d bs
 | _,_,_,.nil=>⟨rfl,fun i v e=>by simp at e⟩
 | _,_,_,.cons r t=>by
  obtain ⟨l,f⟩:=bq t;refine ⟨by simp [l],fun i v e=>?_⟩;cases i with
  | zero=>simp at e;subst e;exact ⟨_,_,rfl,r⟩
  | succ i=>simpa using f i v (by simpa using e)
section
variable {P:Program} {w:World} {A:Around} {E:Value->Shared->Prop} {s:Shared}
theorem qk:∀ (n:Nat) {d:PyData} {v:Value} {as:List Addr} {Q:Bool->Shared->Prop},Reads s.heap v d as->hkB d=true->d.depth<=n->Q true s->wpAny (model P w) A (eqIsQuiet n v) Q E s:=by
 intro n;induction n with
 | zero =>
  intro d v as Q r h hd q;cases r with
  | int i t=>rw [eqIsQuiet_byValue _ rfl];exact Gi q
  | str x t=>rw [eqIsQuiet_byValue _ rfl];exact Gi q
  | tuple _ _ _ _=>rw [PyData.depth] at hd;omega
  | _=>cases h
 | succ n ih =>
  intro d v as Q r h hd q;cases r with
  | int i t=>rw [eqIsQuiet_byValue _ rfl];exact Gi q
  | str x t=>rw [eqIsQuiet_byValue _ rfl];exact Gi q
  | @tuple a o vs k xs as ho hc hdt ra =>
   have hT:s.TypeIs (.ref a) "tuple" := ⟨o,ho,hc⟩;unfold eqIsQuiet;refine Ge (Io hT F.slot_tuple_eq.lookup ?_);show wpAny _ _ (isInstance (.ref a) (.type "tuple")>>=_) _ _ s;refine Ge (wpAny_isInstance hT isSubtype_tuple_tuple ?_);simp only [Jb,Hc,HP];refine Ge (Jh ho hdt (Ge ?_));show wpAny _ _ (forIn vs _ _) _ _ s;rw [<- Jk];have hx:=cU.mp h;refine IX _ (fun rest r s'=>r.1=none/\s'=s/\∀ u∈rest,u∈vs.toList) _ ?_ ?_ _ _ ⟨rfl,rfl,fun _ z=>z⟩
   ·rintro u rest r s' ⟨hr,rfl,hall⟩;obtain ⟨i,hi⟩:=Hb.mp (hall u Gm);obtain ⟨d',bs,e1,r1⟩:=(bq ra).2 i u hi;have hm:=Gx e1;refine Ge (ih r1 (hx d' hm) (by have:=gc hm;omega) ?_);simp only [Jb,Hc,HP];exact Gi ⟨rfl,rfl,fun y hy=>hall y (Gp _ hy)⟩
   ·rintro ⟨r1,r2⟩ s' ⟨hr,rfl,_⟩;simp only at hr;subst hr;exact Gi q
  | _=>cases h
end
open PySem PySem.Spec PyProof.Rows
theorem aX {d:PyData}:kyB d=true↔hkB d=true/\d.canLay0=true/\d.depth<=6:=by simp [kyB,and_assoc]
section
variable {P:Program} {w:World} {A:Around} {E:Value->Shared->Prop} {s:Shared}
theorem Dc {key key':Value} {k k':PyData} {as bs:List Addr} (hu:A.units+6 < cLine) (r:Reads s.heap key k as) (r':Reads s.heap key' k' bs) (h:kyB k=true) (h':kyB k'=true):SeqAt.EqAt A s key' key (PyData.eqv k' k):=by
 rw [aX] at h h';exact SeqAt.eqAt_reads k' k A s key' key bs as r' r h'.2.1 h.2.1 (by have:=Nat.min_le_right k'.depth k.depth;omega)
theorem qm {h:Heap} {v:Value} {x:Str} {as:List Addr} (r:Reads h v (.str x) as):∃ t,v=.str x t:=by cases r;exact ⟨_,rfl⟩
theorem D0 {α:Type} {c:Prop} [Decidable c] {x y:Sem α} {Q:α->Shared->Prop} (hx:wpAny (model P w) A x Q E s) (hy:wpAny (model P w) A y Q E s):wpAny (model P w) A (if c then x else y) Q E s:=by
 split
 ·exact hx
 ·exact hy
end
open PySem PySem.Spec PyProof.Rows
noncomputable def kD:Key->PyData | .inl i=>.int i | .inr x=>.str x
noncomputable def cvK (kv:Key×V):PyData×V×V:=(kD kv.1,kV kv.1,kv.2)
def z7 (trs:List (TE×TE)):TE:=fun σ H Q=>∀ p,H p=none->o5 trs σ (upd H p (.dD 0 [])) fun ps H2=>H2 p=some (.dD 0 [])/\∃ kvs:List (Key×V),ps=kvs.map (fun kv=>(kV kv.1,kv.2))/\kvs.length<=15/\∀ ep,Q (.ref p) (upd H2 p (.dD ep ((iq [] kvs).map cvK)))
noncomputable def By (xs:List (PyData×V×V)) (k:PyData) (j v:V):List (PyData×V×V) :=
 if (xs.any fun x=>PyData.eqv x.1 k)=true then xs.map (fun x=>if PyData.eqv x.1 k=true then (x.1,x.2.1,v) else x) else xs++[(k,j,v)]
open PySem PySem.Spec PyProof.Rows
def Itd (a:Addr) (ep:Nat) (xs:List (PyData×V×V)):It :=
 ⟨fun i H=>H a=some (.dD ep xs)/\i < xs.length,fun i H x H'=>H'=H/\(xs[i]?).map (·.2.1)=some x,fun i H=>H a=some (.dD ep xs)/\xs.length<=i⟩
def E8 (tl:TE):TI:=fun σ H R=>tl σ H fun x H1=>∃ a ep xs,x=.ref a/\H1 a=some (.dD ep xs)/\R (Itd a ep xs) H1
open PySem PySem.Spec PyProof.Rows
def Itz (K:Fg) (a b:Addr) (xs ys:List V):It :=
 ⟨fun i H=>SqL K H a xs/\SqL K H b ys/\i < xs.length/\i < ys.length,fun i H x H'=>∃ p u v,H p=none/\x=.ref p/\xs[i]?=some u/\ys[i]?=some v/\H'=upd H p (.tup [u,v]),fun i H=>SqL K H a xs/\SqL K H b ys/\(xs.length<=i\/ys.length<=i)⟩
def Fz (K:Fg) (t:TA):TI:=fun σ H R=>t σ H fun vs H1=>∃ a b xs ys,vs=[.ref a,.ref b]/\SqL K H1 a xs/\SqL K H1 b ys/\R (Itz K a b xs ys) H1
open PySem
def F7 (K:Fg) (a:Addr) (xs:List V):Prop:=∃ (o:Obj) (its:Array Value) (n:Nat),K.lookup a=some o/\o.cls=.type "list" /\ o.dict=none/\o.data=.seq its n/\its.size<=sizeLine/\Vals xs its.toList
def LsF (K:Fg) (F:Addr->Prop) (H:Hp) (a:Addr) (xs:List V):Prop:=(¬F a/\Rd H a (.lst xs))\/F7 K a xs
mutual
def Dm (K:Fg) (F:Addr->Prop) (H:Hp):PyData->V->Prop
 | .none,v=>v=.non
 | .bool b,v=>v=.bl b
 | .int i,v=>v=.int i
 | .str x,v=>v=.str x/\x.length<=sizeLine/\PyData.strOk x=true
 | .list ds,v=>∃ a xs,v=.ref a/\LsF K F H a xs/\xs.length<=sizeLine/\DmL K F H ds xs
 | .tuple ds,v=>∃ a xs,v=.ref a/\SqT K H a xs/\xs.length<=sizeLine/\DmL K F H ds xs
 | .dict kvs,v=>∃ a ep xs,v=.ref a/\¬F a/\H a=some (.dD ep xs)/\xs.length<=sizeLine/\DmP K F H kvs xs
def DmL (K:Fg) (F:Addr->Prop) (H:Hp):List PyData->List V->Prop
 | [],vs=>vs=[]
 | d :: ds,vs=>∃ v r,vs=v :: r/\Dm K F H d v/\DmL K F H ds r
def DmP (K:Fg) (F:Addr->Prop) (H:Hp):List (PyData×PyData)->List (PyData×V×V)->Prop
 | [],vs=>vs=[]
 | (k,d) :: ds,vs=>∃ j v r,vs=(k,j,v) :: r/\hk6 k=true/\Dm K F H k j/\Dm K F H d v/\DmP K F H ds r
end
noncomputable def Wr:HO->Bool | .lst _=>true | .dD _ _=>true | _=>false
def Pr (F:Addr->Prop) (H H':Hp):Prop:=∀ b o,H b=some o->(¬F b\/Wr o=false)->H' b=some o
section
variable {K:PySem.W.Frag} {F F':Addr->Prop} {H H':Hp}
theorem SqT.pr {a:Addr} {xs:List V} (p:Pr F H H') (h:SqT K H a xs):SqT K H' a xs:=by
 rcases h with (h | ⟨o,h⟩) | h
 ·exact .inl (.inl (p _ _ h (.inr rfl)))
 ·exact .inl (.inr ⟨o,p _ _ h (.inr rfl)⟩)
 ·exact .inr h
theorem LsF.pr {a:Addr} {xs:List V} (p:Pr F H H') (hf:∀ b,F' b->F b) (h:LsF K F H a xs):LsF K F' H' a xs:=by
 rcases h with ⟨n,h | ⟨o,h⟩⟩ | h
 ·exact .inl ⟨fun z=>n (hf _ z),.inl (p _ _ h (.inl n))⟩
 ·exact .inl ⟨fun z=>n (hf _ z),.inr ⟨o,p _ _ h (.inl n)⟩⟩
 ·exact .inr h
mutual
theorem Dm.pr (p:Pr F H H') (hf:∀ b,F' b->F b):∀ {d:PyData} {v:V},Dm K F H d v->Dm K F' H' d v
 | .none,v,h=>h
 | .bool b,v,h=>h
 | .int i,v,h=>h
 | .str x,v,h=>h
 | .list ds,v,h=>by
  obtain ⟨a,xs,e,l,z,r⟩:=h;exact ⟨a,xs,e,l.pr p hf,z,DmL.pr p hf r⟩
 | .tuple ds,v,h=>by
  obtain ⟨a,xs,e,l,z,r⟩:=h;exact ⟨a,xs,e,l.pr p,z,DmL.pr p hf r⟩
 | .dict kvs,v,h=>by
  obtain ⟨a,ep,xs,e,n,l,z,r⟩:=h;exact ⟨a,ep,xs,e,fun q=>n (hf _ q),p _ _ l (.inl n),z,DmP.pr p hf r⟩
theorem DmL.pr (p:Pr F H H') (hf:∀ b,F' b->F b):∀ {ds:List PyData} {vs:List V},DmL K F H ds vs->DmL K F' H' ds vs
 | [],vs,h=>h
 | d :: ds,vs,h=>by
  obtain ⟨v,r,e,h1,h2⟩:=h;exact ⟨v,r,e,Dm.pr p hf h1,DmL.pr p hf h2⟩
theorem DmP.pr (p:Pr F H H') (hf:∀ b,F' b->F b):∀ {ds:List (PyData×PyData)} {vs:List (PyData×V×V)},DmP K F H ds vs->DmP K F' H' ds vs
 | [],vs,h=>h
 | (k,d) :: ds,vs,h=>by
  obtain ⟨j,v,r,e,e2,h0,h1,h2⟩:=h;exact ⟨j,v,r,e,e2,Dm.pr p hf h0,Dm.pr p hf h1,DmP.pr p hf h2⟩
end
theorem LsF.fresh {a c:Addr} {xs:List V} (hc:H c=none) (h:LsF K F H a xs):LsF K (fun b=>F b\/b=c) H a xs:=by
 rcases h with ⟨n,h⟩ | h
 ·refine .inl ⟨fun z=>z.elim n fun e=>?_,h⟩;subst e;rcases h with h | ⟨o,h⟩ <;> (rw [hc] at h;cases h)
 ·exact .inr h
mutual
theorem Dm.fresh {c:Addr} (hc:H c=none):∀ {d:PyData} {v:V},Dm K F H d v->Dm K (fun b=>F b\/b=c) H d v
 | .none,v,h=>h
 | .bool b,v,h=>h
 | .int i,v,h=>h
 | .str x,v,h=>h
 | .list ds,v,h=>by
  obtain ⟨a,xs,e,l,z,r⟩:=h;exact ⟨a,xs,e,l.fresh hc,z,DmL.fresh hc r⟩
 | .tuple ds,v,h=>by
  obtain ⟨a,xs,e,l,z,r⟩:=h;exact ⟨a,xs,e,l,z,DmL.fresh hc r⟩
 | .dict kvs,v,h=>by
  obtain ⟨a,ep,xs,e,n,l,z,r⟩:=h;exact ⟨a,ep,xs,e,fun q=>q.elim n fun q=>(by subst q;rw [hc] at l;cases l),l,z,DmP.fresh hc r⟩
theorem DmL.fresh {c:Addr} (hc:H c=none):∀ {ds:List PyData} {vs:List V},DmL K F H ds vs->DmL K (fun b=>F b\/b=c) H ds vs
 | [],vs,h=>h
 | d :: ds,vs,h=>by
  obtain ⟨v,r,e,h1,h2⟩:=h;exact ⟨v,r,e,Dm.fresh hc h1,DmL.fresh hc h2⟩
theorem DmP.fresh {c:Addr} (hc:H c=none):∀ {ds:List (PyData×PyData)} {vs:List (PyData×V×V)},DmP K F H ds vs->DmP K (fun b=>F b\/b=c) H ds vs
 | [],vs,h=>h
 | (k,d) :: ds,vs,h=>by
  obtain ⟨j,v,r,e,e2,h0,h1,h2⟩:=h;exact ⟨j,v,r,e,e2,Dm.fresh hc h0,Dm.fresh hc h1,DmP.fresh hc h2⟩
end
theorem Pr.refl:Pr F H H:=fun _ _ h _=>h
theorem Pr.trans {H1 H2:Hp} (a:Pr F H H1) (b:Pr F' H1 H2) (hf:∀ b,F' b->F b):Pr F H H2:=fun c o h n=>b c o (a c o h n) (n.imp (fun z q=>z (hf _ q)) id)
theorem Pr.of_same (a:ay H H'):Pr F H H':=fun c o h _=>a c o h
theorem Dm.mono (hf:∀ b,F' b->F b) {d:PyData} {v:V} (h:Dm K F H d v):Dm K F' H d v:=h.pr Pr.refl hf
theorem DmL.mono (hf:∀ b,F' b->F b) {d:List PyData} {v:List V} (h:DmL K F H d v):DmL K F' H d v:=h.pr Pr.refl hf
theorem DmL.len:∀ {ds:List PyData} {vs:List V},DmL K F H ds vs->vs.length=ds.length
 | [],vs,h=>by rw [show vs=[] from h];rfl
 | d :: ds,vs,h=>by
  obtain ⟨v,r,e,h1,h2⟩:=h;rw [e,GH,GH,DmL.len h2]
theorem DmL.get:∀ {ds:List PyData} {vs:List V} {i:Nat} {d:PyData},DmL K F H ds vs->ds[i]?=some d->∃ v,vs[i]?=some v/\Dm K F H d v
 | [],vs,_,_,h,e=>by simp at e
 | d :: ds,vs,0,d',h,e=>by
  obtain ⟨v,r,e1,h1,h2⟩:=h;simp at e;subst e;subst e1;exact ⟨v,rfl,h1⟩
 | d :: ds,vs,i+1,d',h,e=>by
  obtain ⟨v,r,e1,h1,h2⟩:=h;subst e1;obtain ⟨w,q1,q2⟩:=DmL.get (i:=i) h2 (by simpa using e);exact ⟨w,by simpa using q1,q2⟩
theorem DmL.get' {ds:List PyData} {vs:List V} {i:Nat} {v:V} (h:DmL K F H ds vs) (e:vs[i]?=some v):∃ d,ds[i]?=some d/\Dm K F H d v:=by
 have hl:=h.len;have hi:i < vs.length:=(Gh.mp e).1;have hd:ds[i]?=some (ds[i]'(by omega)):=Gd _;obtain ⟨w,e2,q⟩:=h.get hd;rw [e] at e2;cases e2;exact ⟨_,hd,q⟩
theorem DmL.app:∀ {ds es:List PyData} {vs ws:List V},DmL K F H ds vs->DmL K F H es ws->DmL K F H (ds++es) (vs++ws)
 | [],es,vs,ws,h,q=>by rw [show vs=[] from h];exact q
 | d :: ds,es,vs,ws,h,q=>by
  obtain ⟨v,r,e,h1,h2⟩:=h;subst e;exact ⟨v,r++ws,rfl,h1,DmL.app h2 q⟩
theorem DmL.snoc {ds:List PyData} {vs:List V} {d:PyData} {v:V} (h:DmL K F H ds vs) (q:Dm K F H d v):DmL K F H (ds++[d]) (vs++[v]):=h.app ⟨v,[],rfl,q,rfl⟩
def Top (K:PySem.W.Frag) (F:Addr->Prop) (H:Hp):PyData->Addr->Prop
 | .list ds,a=>∃ xs,H a=some (.lst xs)/\xs.length<=sizeLine/\DmL K F H ds xs
 | .dict kvs,a=>∃ ep xs,H a=some (.dD ep xs)/\xs.length<=sizeLine/\DmP K F H kvs xs
 | _,_=>False
def xp (K:PySem.W.Frag) (F:Addr->Prop) (H:Hp):PyData->Addr->Prop
 | .list ds,a=>∃ xs,SqL K H a xs/\xs.length<=sizeLine/\DmL K F H ds xs
 | .dict kvs,a=>∃ ep xs,H a=some (.dD ep xs)/\xs.length<=sizeLine/\DmP K F H kvs xs
 | _,_=>False
def Vw (K:PySem.W.Frag) (F:Addr->Prop) (H:Hp):PyData->V->Prop
 | .list ds,v=>∃ a,v=.ref a/\xp K F H (.list ds) a
 | .dict ds,v=>∃ a,v=.ref a/\xp K F H (.dict ds) a
 | d,v=>Dm K F H d v
theorem Top.r {d:PyData} {a:Addr} (h:Top K F H d a):xp K F H d a:=by
 cases d with
 | list ds=>obtain ⟨xs,e,z,r⟩:=h;exact ⟨xs,.inl (.inl e),z,r⟩
 | dict ds=>exact h
 | _=>exact h
theorem xp.vw {d:PyData} {a:Addr} (h:xp K F H d a):Vw K F H d (.ref a):=by
 cases d with
 | list ds=>exact ⟨a,rfl,h⟩
 | dict ds=>exact ⟨a,rfl,h⟩
 | _=>exact absurd h id
theorem Dm.vw {d:PyData} {v:V} (h:Dm K F H d v):Vw K F H d v:=by
 cases d with
 | list ds =>
  obtain ⟨a,xs,e,l,z,r⟩:=h;refine ⟨a,e,xs,?_,z,r⟩;rcases l with ⟨n,l⟩ | l
  ·exact .inl l
  ·exact .inr l
 | dict ds=>obtain ⟨a,ep,xs,e,n,l,z,r⟩:=h;exact ⟨a,e,ep,xs,l,z,r⟩
 | _=>exact h
theorem Top.dm {d:PyData} {a:Addr} (h:Top K F H d a) (n:¬F a):Dm K F H d (.ref a):=by
 cases d with
 | list ds=>obtain ⟨xs,e,z,r⟩:=h;exact ⟨a,xs,rfl,.inl ⟨n,.inl e⟩,z,r⟩
 | dict ds=>obtain ⟨ep,xs,e,z,r⟩:=h;exact ⟨a,ep,xs,rfl,n,e,z,r⟩
 | _=>exact absurd h id
theorem Top.wr {d:PyData} {a:Addr} (h:Top K F H d a):∃ o,H a=some o/\Wr o=true:=by
 cases d with
 | list ds=>obtain ⟨xs,e,_⟩:=h;exact ⟨_,e,rfl⟩
 | dict ds=>obtain ⟨ep,xs,e,_⟩:=h;exact ⟨_,e,rfl⟩
 | _=>exact absurd h id
theorem Top.pr {d:PyData} {a:Addr} (h:Top K F H d a) (p:Pr F H H') (hf:∀ b,F' b->F b) (ha:∀ o,H a=some o->H' a=some o):Top K F' H' d a:=by
 cases d with
 | list ds=>obtain ⟨xs,e,z,r⟩:=h;exact ⟨xs,ha _ e,z,r.pr p hf⟩
 | dict ds=>obtain ⟨ep,xs,e,z,r⟩:=h;exact ⟨ep,xs,ha _ e,z,r.pr p hf⟩
 | _=>exact absurd h id
theorem Top.fresh {d:PyData} {a c:Addr} (hc:H c=none) (h:Top K F H d a):Top K (fun b=>F b\/b=c) H d a:=by
 cases d with
 | list ds=>obtain ⟨xs,e,z,r⟩:=h;exact ⟨xs,e,z,r.fresh hc⟩
 | dict ds=>obtain ⟨ep,xs,e,z,r⟩:=h;exact ⟨ep,xs,e,z,r.fresh hc⟩
 | _=>exact absurd h id
end
open PySem
def E5 (K:Fg) (tl:TE):TI:=fun σ H R=>rl K tl σ H R\/Bh K tl σ H R
inductive Sl where | un | dat (d:PyData) | own (d:PyData) | ino (d:PyData) | ro (d:PyData)
abbrev En:=List Sl
inductive RV where | dat (d:PyData) | bor (i:Nat) | frs (d:PyData)
inductive PR where | dat (d:PyData) | frs (d:PyData)
inductive AV where | dat (d:PyData) | bor (i:Nat)
inductive PM where | dat | bor | ino
noncomputable def PR.rv:PR->RV | .dat d=>.dat d | .frs d=>.frs d
noncomputable def RV.av:RV->AV | .dat d=>.dat d | .frs d=>.dat d | .bor i=>.bor i
structure Fn where
 ms:List PM
 F:List PyData->Option (PR×List PyData)
noncomputable def cont (env:En) (i:Nat):Option PyData:=match env[i]? with | some (.own d)=>some d | some (.ino d)=>some d | some (.ro d)=>some d | _=>none
noncomputable def aA (env:En) (i:Nat):Option PyData:=match env[i]? with | some (.own d)=>some d | some (.ino d)=>some d | _=>none
noncomputable def fg (env:En) (i:Nat) (d:PyData):En:=match env[i]? with | some (.own _)=>env.set i (.own d) | some (.ino _)=>env.set i (.ino d) | _=>env
noncomputable def AV.view (env:En):AV->Option PyData | .dat d=>some d | .bor i=>cont env i
noncomputable def RV.view (env:En) (r:RV):Option PyData:=r.av.view env
def mu (env:En) (i:Nat):Prop:=∃ d,env[i]?=some (.own d)\/env[i]?=some (.ino d)
def IA (env:En) (σ:St) (b:Addr):Prop:=∃ i,mu env i/\σ[i]?=some (some (.ref b))
def FF (F0:Addr->Prop) (env:En) (σ:St) (b:Addr):Prop:=F0 b\/∃ (i:Nat) (d:PyData),env[i]?=some (.own d)/\σ[i]?=some (some (.ref b))
def d3 (K:Fg) (F I:Addr->Prop) (H:Hp):PyData->Addr->Prop
 | .list ds,a=>∃ xs,LsF K I H a xs/\xs.length<=sizeLine/\DmL K F H ds xs
 | .dict kvs,a=>∃ ep xs,¬I a/\H a=some (.dD ep xs)/\xs.length<=sizeLine/\DmP K F H kvs xs
 | _,_=>False
structure Rel (K:Fg) (F0:Addr->Prop) (H₀:Hp) (I:Addr->Prop) (env:En) (σ:St) (H:Hp):Prop where
 len:env.length=σ.length
 dat:∀ (i:Nat) (d:PyData),env[i]?=some (.dat d)->∃ v,σ[i]?=some (some v)/\Dm K (FF F0 env σ) H d v
 own:∀ (i:Nat) (d:PyData),env[i]?=some (.own d)->∃ a,σ[i]?=some (some (.ref a))/\¬F0 a/\(H₀ a=none\/I a)/\Top K (FF F0 env σ) H d a
 ino:∀ (i:Nat) (d:PyData),env[i]?=some (.ino d)->∃ a,σ[i]?=some (some (.ref a))/\F0 a/\I a/\Top K (FF F0 env σ) H d a
 ro:∀ (i:Nat) (d:PyData),env[i]?=some (.ro d)->∃ a,σ[i]?=some (some (.ref a))/\d3 K (FF F0 env σ) (IA env σ) H d a
 sep:∀ i j a,mu env i->mu env j->σ[i]?=some (some (.ref a))->σ[j]?=some (some (.ref a))->i=j
 dom:∀ b,F0 b->H b≠none
 cB:∀ b o,H₀ b=some o->¬I b->H b=some o
section
variable {K:Fg} {F F' I I' F0:Addr->Prop} {H H' H₀:Hp} {env env':En} {σ σ':St}
theorem d3.r {d:PyData} {a:Addr} (h:d3 K F I H d a):xp K F H d a:=by
 cases d with
 | list ds =>
  obtain ⟨xs,l,z,r⟩:=h;exact ⟨xs,l.elim (fun q=>.inl q.2) .inr,z,r⟩
 | dict ds=>obtain ⟨ep,xs,n,l,z,r⟩:=h;exact ⟨ep,xs,l,z,r⟩
 | _=>exact absurd h id
theorem d3.pr {d:PyData} {a:Addr} (h:d3 K F I H d a) (p:Pr F H H') (hf:∀ b,F' b->F b) (hi:∀ b,I' b->I b) (k:∀ b o,H b=some o->¬I b->H' b=some o):d3 K F' I' H' d a:=by
 cases d with
 | list ds =>
  obtain ⟨xs,l,z,r⟩:=h;refine ⟨xs,?_,z,r.pr p hf⟩;rcases l with ⟨n,l | ⟨o,l⟩⟩ | l
  ·exact .inl ⟨fun q=>n (hi _ q),.inl (k _ _ l n)⟩
  ·exact .inl ⟨fun q=>n (hi _ q),.inr ⟨o,k _ _ l n⟩⟩
  ·exact .inr l
 | dict ds=>obtain ⟨ep,xs,n,l,z,r⟩:=h;exact ⟨ep,xs,fun q=>n (hi _ q),k _ _ l n,z,r.pr p hf⟩
 | _=>exact absurd h id
theorem d3.fresh {d:PyData} {a c:Addr} (hc:H c=none) (h:d3 K F I H d a):d3 K (fun b=>F b\/b=c) I H d a:=by
 cases d with
 | list ds=>obtain ⟨xs,e,z,r⟩:=h;exact ⟨xs,e,z,r.fresh hc⟩
 | dict ds=>obtain ⟨ep,xs,n,e,z,r⟩:=h;exact ⟨ep,xs,n,e,z,r.fresh hc⟩
 | _=>exact absurd h id
theorem Dm.ro {d:PyData} {v:V} (h:Dm K F H d v) (hi:∀ b,I b->F b) (l:(∃ ds,d=.list ds)\/∃ ds,d=.dict ds):∃ a,v=.ref a/\d3 K F I H d a:=by
 rcases l with ⟨ds,rfl⟩ | ⟨ds,rfl⟩
 ·obtain ⟨a,xs,e,l,z,r⟩:=h;exact ⟨a,e,xs,l.elim (fun q=>.inl ⟨fun z=>q.1 (hi _ z),q.2⟩) .inr,z,r⟩
 ·obtain ⟨a,ep,xs,e,n,l,z,r⟩:=h;exact ⟨a,e,ep,xs,fun q=>n (hi _ q),l,z,r⟩
theorem Top.ro {d:PyData} {a:Addr} (h:Top K F H d a) (n:¬I a):d3 K F I H d a:=by
 cases d with
 | list ds=>obtain ⟨xs,e,z,r⟩:=h;exact ⟨xs,.inl ⟨n,.inl e⟩,z,r⟩
 | dict ds=>obtain ⟨ep,xs,e,z,r⟩:=h;exact ⟨ep,xs,n,e,z,r⟩
 | _=>exact absurd h id
theorem Rel.ia (R:Rel K F0 H₀ I env σ H) {b:Addr} (h:IA env σ b):FF F0 env σ b:=by
 obtain ⟨i,⟨d,e | e⟩,s⟩:=h
 ·exact .inr ⟨i,d,e,s⟩
 ·obtain ⟨a,s',f,_⟩:=R.ino i d e;rw [s] at s';cases s';exact .inl f
theorem Rel.iaT (R:Rel K F0 H₀ I env σ H) {b:Addr} (h:IA env σ b):∃ o,H b=some o/\Wr o=true:=by
 obtain ⟨i,⟨d,e | e⟩,s⟩:=h
 ·obtain ⟨a,s',_,_,t⟩:=R.own i d e;rw [s] at s';cases s';exact t.wr
 ·obtain ⟨a,s',_,_,t⟩:=R.ino i d e;rw [s] at s';cases s';exact t.wr
theorem Rel.iaI (R:Rel K F0 H₀ I env σ H) {b:Addr} (h:IA env σ b):H₀ b=none\/I b:=by
 obtain ⟨i,⟨d,e | e⟩,s⟩:=h
 ·obtain ⟨a,s',_,q,t⟩:=R.own i d e;rw [s] at s';cases s';exact q
 ·obtain ⟨a,s',_,q,t⟩:=R.ino i d e;rw [s] at s';cases s';exact .inr q
theorem Rel.c6 (R:Rel K F0 H₀ I env σ H) {b:Addr} (h:FF F0 env σ b):H b≠none:=by
 rcases h with h | ⟨i,d,e,s⟩
 ·exact R.dom b h
 ·obtain ⟨o,q,_⟩:=R.iaT ⟨i,⟨d,.inl e⟩,s⟩;rw [q];exact nofun
theorem Rel.mH (R:Rel K F0 H₀ I env σ H) (k:∀ b o,H b=some o->¬IA env σ b->H' b=some o):Pr (FF F0 env σ) H H':=fun b o h n=>k b o h fun q=>by
 rcases n with n | n
 ·exact n (R.ia q)
 ·obtain ⟨o',h',w⟩:=R.iaT q;rw [h] at h';cases h';rw [n] at w;cases w
theorem Rel.rebase (R:Rel K F0 H₀ I env σ H):Rel K F0 H (IA env σ) env σ H :=
 ⟨R.len,R.dat,fun i d e=>let ⟨a,s,n,_,t⟩:=R.own i d e;⟨a,s,n,.inr ⟨i,⟨d,.inl e⟩,s⟩,t⟩,fun i d e=>let ⟨a,s,n,_,t⟩:=R.ino i d e;⟨a,s,n,⟨i,⟨d,.inr e⟩,s⟩,t⟩,R.ro,R.sep,R.dom,fun _ _ h _=>h⟩
theorem Rel.oi (R:Rel K F0 H₀ I env σ H) {a:Addr} (h:H a=none\/IA env σ a):H₀ a=none\/I a:=by
 rcases h with h | h
 ·cases e:H₀ a with
  | none=>exact .inl rfl
  | some o =>
   by_cases z:I a
   ·exact .inr z
   ·have:=R.cB a o e z;rw [h] at this;cases this
 ·exact R.iaI h
theorem Rel.aZ (R:Rel K F0 H₀ I env σ H) (S:Rel K F0 H (IA env σ) env' σ' H'):Rel K F0 H₀ I env' σ' H':=by
 refine ⟨S.len,S.dat,fun i d e=>?_,fun i d e=>?_,S.ro,S.sep,S.dom,fun b o h n=>?_⟩
 ·obtain ⟨a,s,n,q,t⟩:=S.own i d e;exact ⟨a,s,n,R.oi q,t⟩
 ·obtain ⟨a,s,n,q,t⟩:=S.ino i d e;refine ⟨a,s,n,?_,t⟩;obtain ⟨j,⟨d',e' | e'⟩,s'⟩:=q
  ·obtain ⟨a',s2,n',_⟩:=R.own j d' e';rw [s'] at s2;cases s2;exact absurd n n'
  ·obtain ⟨a',s2,_,n',_⟩:=R.ino j d' e';rw [s'] at s2;cases s2;exact n'
 ·refine S.cB b o (R.cB b o h n) fun q=>?_;rcases R.iaI q with z | z
  ·rw [h] at z;cases z
  ·exact n z
def Evo:Sl->Sl->Prop
 | .un,s=>s=.un
 | .dat d,s=>s=.dat d
 | .own _,s=>(∃ d,s=.own d)\/(∃ d,s=.dat d)\/s=.un
 | .ino _,s=>∃ d,s=.ino d
 | .ro d,s=>s=.ro d
def KpE (env env':En):Prop:=env'.length=env.length/\∀ (i:Nat) (s:Sl),env[i]?=some s->∃ s',env'[i]?=some s'/\Evo s s'
theorem Evo.refl:∀ s,Evo s s
 | .un=>rfl
 | .dat _=>rfl
 | .own d=>.inl ⟨d,rfl⟩
 | .ino d=>⟨d,rfl⟩
 | .ro _=>rfl
theorem Evo.trans:∀ {a b c:Sl},Evo a b->Evo b c->Evo a c
 | .un,b,c,h,q=>by rw [show b=.un from h] at q;exact q
 | .dat d,b,c,h,q=>by rw [show b=.dat d from h] at q;exact q
 | .own d,b,c,h,q=>by
  rcases h with ⟨d,rfl⟩ | ⟨d,rfl⟩ | rfl
  ·exact q
  ·exact .inr (.inl ⟨d,q⟩)
  ·exact .inr (.inr q)
 | .ino d,b,c,h,q=>by obtain ⟨d,rfl⟩:=h;exact q
 | .ro d,b,c,h,q=>by rw [show b=.ro d from h] at q;exact q
theorem KpE.refl (env:En):KpE env env:=⟨rfl,fun i s e=>⟨s,e,.refl s⟩⟩
theorem KpE.trans {e1 e2 e3:En} (a:KpE e1 e2) (b:KpE e2 e3):KpE e1 e3:=⟨b.1.trans a.1,fun i s e=>by
 obtain ⟨s1,h1,v1⟩:=a.2 i s e;obtain ⟨s2,h2,v2⟩:=b.2 i s1 h1
 exact ⟨s2,h2,v1.trans v2⟩⟩
theorem KpE.back (k:KpE env env') {i:Nat} {s':Sl} (e:env'[i]?=some s'):∃ s,env[i]?=some s/\Evo s s':=by
 have hi:i < env'.length:=(Gh.mp e).1;have:env[i]?=some (env[i]'(by rw [<- k.1];exact hi)):=Gd _;obtain ⟨s2,h2,v⟩:=k.2 i _ this;rw [e] at h2;cases h2;exact ⟨_,this,v⟩
theorem KpE.own (k:KpE env env') {i:Nat} {d:PyData} (e:env'[i]?=some (.own d)):∃ d',env[i]?=some (.own d'):=by
 obtain ⟨s,h,v⟩:=k.back e;cases s with
 | un=>cases v
 | dat _=>cases v
 | own d'=>exact ⟨d',h⟩
 | ino _=>obtain ⟨_,v⟩:=v;cases v
 | ro _=>cases v
theorem KpE.ff (k:KpE env env') {b:Addr} (h:FF F0 env' σ b):FF F0 env σ b:=by
 rcases h with h | ⟨i,d,e,s⟩
 ·exact .inl h
 ·obtain ⟨d',e'⟩:=k.own e;exact .inr ⟨i,d',e',s⟩
theorem KpE.mu (k:KpE env env') {i:Nat} (h:mu env' i):mu env i:=by
 obtain ⟨d,h | h⟩:=h
 ·obtain ⟨d',e⟩:=k.own h;exact ⟨d',.inl e⟩
 ·obtain ⟨s,h,v⟩:=k.back h;cases s with
  | un=>cases v
  | dat _=>cases v
  | own d'=>rcases v with ⟨_,v⟩ | ⟨_,v⟩ | v <;> cases v
  | ino d'=>exact ⟨d',.inr h⟩
  | ro _=>cases v
theorem KpE.ia (k:KpE env env') {b:Addr} (h:IA env' σ b):IA env σ b:=let ⟨i,m,s⟩:=h;⟨i,k.mu m,s⟩
theorem Rel.lX (R:Rel K F0 H₀ I env σ H) (S:Rel K F0 H (IA env σ) env' σ H') (k:KpE env env') {d:PyData} {v:V} (h:Dm K (FF F0 env σ) H d v):Dm K (FF F0 env' σ) H' d v :=
 h.pr (R.mH fun b o e n=>S.cB b o e n) fun _ z=>k.ff z
theorem Rel.same (R:Rel K F0 H₀ I env σ H) (s:ay H H'):Rel K F0 H₀ I env σ H':=by
 have p:Pr (FF F0 env σ) H H':=Pr.of_same s;refine ⟨R.len,fun i d e=>?_,fun i d e=>?_,fun i d e=>?_,fun i d e=>?_,R.sep,fun b h=>?_,fun b o h n=>s _ _ (R.cB b o h n)⟩
 ·obtain ⟨v,q,r⟩:=R.dat i d e;exact ⟨v,q,r.pr p fun _ z=>z⟩
 ·obtain ⟨a,q,n,w,t⟩:=R.own i d e;exact ⟨a,q,n,w,t.pr p (fun _ z=>z) (fun o z=>s _ _ z)⟩
 ·obtain ⟨a,q,n,w,t⟩:=R.ino i d e;exact ⟨a,q,n,w,t.pr p (fun _ z=>z) (fun o z=>s _ _ z)⟩
 ·obtain ⟨a,q,t⟩:=R.ro i d e;exact ⟨a,q,t.pr p (fun _ z=>z) (fun _ z=>z) (fun b o z _=>s _ _ z)⟩
 ·cases e:H b with
  | none=>exact absurd e (R.dom b h)
  | some o=>rw [s _ _ e];exact nofun
theorem d6 {c:Addr}:FF (fun b=>F0 b\/b=c) env σ=fun b=>FF F0 env σ b\/b=c:=by
 funext b;apply propext;constructor
 ·rintro ((h | h) | h)
  ·exact .inl (.inl h)
  ·exact .inr h
  ·exact .inl (.inr h)
 ·rintro ((h | h) | h)
  ·exact .inl (.inl h)
  ·exact .inr h
  ·exact .inl (.inr h)
theorem Rel.fresh (R:Rel K F0 H₀ I env σ H) {c:Addr} (hc:H c=none) {H':Hp} (s:ay H H') (hc':H' c≠none):Rel K (fun b=>F0 b\/b=c) H₀ I env σ H':=by
 have p:Pr (fun b=>FF F0 env σ b\/b=c) H H':=Pr.of_same s;have na:∀ i a,mu env i->σ[i]?=some (some (.ref a))->a≠c:=fun i a m q z=>by
  obtain ⟨o,h,_⟩:=R.iaT ⟨i,m,q⟩;rw [z,hc] at h;cases h
 refine ⟨R.len,fun i d e=>?_,fun i d e=>?_,fun i d e=>?_,fun i d e=>?_,R.sep,fun b h=>?_,fun b o h n=>s _ _ (R.cB b o h n)⟩
 ·obtain ⟨v,q,r⟩:=R.dat i d e;rw [d6];exact ⟨v,q,(r.fresh hc).pr p fun _ z=>z⟩
 ·obtain ⟨a,q,n,w,t⟩:=R.own i d e;rw [d6];exact ⟨a,q,fun z=>z.elim n (na i a ⟨d,.inl e⟩ q),w,(t.fresh hc).pr p (fun _ z=>z) (fun o z=>s _ _ z)⟩
 ·obtain ⟨a,q,n,w,t⟩:=R.ino i d e;rw [d6];exact ⟨a,q,.inl n,w,(t.fresh hc).pr p (fun _ z=>z) (fun o z=>s _ _ z)⟩
 ·obtain ⟨a,q,t⟩:=R.ro i d e;rw [d6];exact ⟨a,q,(t.fresh hc).pr p (fun _ z=>z) (fun _ z=>z) (fun b o z _=>s _ _ z)⟩
 ·rcases h with h | h
  ·cases e:H b with
   | none=>exact absurd e (R.dom b h)
   | some o=>rw [s _ _ e];exact nofun
  ·rw [h];exact hc'
theorem Rel.less {c:Addr} (R:Rel K (fun b=>F0 b\/b=c) H₀ I env σ H) (hi:∀ (i:Nat) (d:PyData),env[i]?=some (.ino d)->σ[i]?≠some (some (.ref c))):Rel K F0 H₀ I env σ H:=by
 have hf:∀ b,FF F0 env σ b->FF (fun b=>F0 b\/b=c) env σ b:=fun b z=>by rw [d6];exact .inl z
 refine ⟨R.len,fun i d e=>?_,fun i d e=>?_,fun i d e=>?_,fun i d e=>?_,R.sep,fun b h=>R.dom b (.inl h),R.cB⟩
 ·obtain ⟨v,q,r⟩:=R.dat i d e;exact ⟨v,q,r.mono hf⟩
 ·obtain ⟨a,q,n,w,t⟩:=R.own i d e;exact ⟨a,q,fun z=>n (.inl z),w,t.pr Pr.refl hf fun _ z=>z⟩
 ·obtain ⟨a,q,n,w,t⟩:=R.ino i d e;refine ⟨a,q,?_,w,t.pr Pr.refl hf fun _ z=>z⟩;rcases n with n | n
  ·exact n
  ·exact absurd (n▸q) (hi i d e)
 ·obtain ⟨a,q,t⟩:=R.ro i d e;exact ⟨a,q,t.pr Pr.refl hf (fun _ z=>z) fun _ _ z _=>z⟩
end
open PySem
def ur (K:Fg) (F:Addr->Prop) (H H':Hp):PR->V->Prop
 | .dat d,v=>Dm K F H' d v
 | .frs d,v=>∃ a,v=.ref a/\H a=none/\Top K (fun b=>F b\/b=a) H' d a
def VwL (K:Fg) (F:Addr->Prop) (H:Hp):List PyData->List V->Prop
 | [],vs=>vs=[]
 | d :: ds,vs=>∃ v r,vs=v :: r/\Vw K F H d v/\VwL K F H ds r
structure Cst where
 d:PyData
 v:V
 ok:∀ (K:Fg) (F:Addr->Prop) (H:Hp),Dm K F H d v
def Cst.i (i:Int):Cst:=⟨.int i,.int i,fun _ _ _=>rfl⟩
def Cst.s (x:Str) (h:x.length<=sizeLine) (h2:PyData.strOk x=true):Cst:=⟨.str x,.str x,fun _ _ _=>⟨rfl,h,h2⟩⟩
def Cst.b (b:Bool):Cst:=⟨.bool b,.bl b,fun _ _ _=>rfl⟩
def Cst.n:Cst:=⟨.none,.non,fun _ _ _=>rfl⟩
structure Prm where
 r:Fg->List V->Hp->VK->Prop
 f:List PyData->Option PR
 ok:∀ (K:Fg) (F:Addr->Prop) (H:Hp) (ds:List PyData) (vs:List V) (pr:PR) (Q:VK),f ds=some pr->VwL K F H ds vs->(∀ b,F b->H b≠none)->(∀ v H',ay H H'->ur K F H H' pr v->Q v H')->r K vs H Q
structure Mtd where
 T:String
 r:Fg->V->List V->Hp->VK->Prop
 ty:PyData->Bool
 f:PyData->List PyData->Option PR
 vV:∀ (K:Fg) (F:Addr->Prop) (H:Hp) (d:PyData) (v:V),ty d=true->Vw K F H d v->tyV K T v H
 ok:∀ (K:Fg) (F:Addr->Prop) (H:Hp) (d:PyData) (v:V) (ds:List PyData) (vs:List V) (pr:PR) (Q:VK),f d ds=some pr->Vw K F H d v->VwL K F H ds vs->(∀ b,F b->H b≠none)->(∀ v H',ay H H'->ur K F H H' pr v->Q v H')->r K v vs H Q
def MvL (K:Fg) (F:Addr->Prop) (H:Hp):List (Bool×PyData)->List V->Prop
 | [],vs=>vs=[]
 | (true,d) :: ds,vs=>∃ v r,vs=v :: r/\Dm K F H d v/\MvL K F H ds r
 | (false,d) :: ds,vs=>∃ v r,vs=v :: r/\Vw K F H d v/\MvL K F H ds r
structure Mtr where
 T:String
 r:Fg->V->List V->Hp->VK->Prop
 ty:PyData->Bool
 f:PyData->List (Bool×PyData)->Option (PyData×PyData)
 vV:∀ (K:Fg) (F:Addr->Prop) (H:Hp) (d:PyData) (a:Addr),ty d=true->Top K F H d a->tyV K T (.ref a) H
 ok:∀ (K:Fg) (F:Addr->Prop) (H:Hp) (d:PyData) (a:Addr) (as:List (Bool×PyData)) (vs:List V) (d' x:PyData) (Q:VK),f d as=some (d',x)->F a->Top K F H d a->MvL K F H as vs ->
  (∀ v H',(∀ b o,b≠a->H b=some o->H' b=some o)->Top K F H' d' a->Dm K F H' x v->Q v H')->r K (.ref a) vs H Q
structure uI where
 r:Fg->V->V->V->Hp->(Hp->Prop)->Prop
 f:PyData->PyData->PyData->Option PyData
 ok:∀ (K:Fg) (F:Addr->Prop) (H:Hp) (d:PyData) (a:Addr) (k x:PyData) (vk vx:V) (d':PyData) (Q:Hp->Prop),f d k x=some d'->F a->Top K F H d a->Vw K F H k vk->Dm K F H x vx ->
  (∀ H',(∀ b o,b≠a->H b=some o->H' b=some o)->Top K F H' d' a->Q H')->r K (.ref a) vk vx H Q
mutual
inductive XE where
 | var (i:Nat) | mov (i:Nat) | tke (i:Nat) | cst (c:Cst) | glb (g:Nat)
 | prm (p:Prm) (as:XA) | met (m:Mtd) (o:XE) (as:XA) | mtr (m:Mtr) (i:Nat) (as:XA) | call (f:Fn) (as:XA)
 | tup (as:XA) | lst (as:XA) | dsp (as:XP) | fst (as:XA)
 | ifx (c:XT) (a b:XE) | wt (a b:XE) | orv (a b:XE) | xH (a:XE) | chn (p q:Prm) (a b c:XE) | sl2 (p:Int->Int->Prm) (a b c:XE)
 | cmp (js:List Nat) (it:XI) (c:XT) (e:XE) | xu (n:List Str) (js:List Nat) (it:XI) (e:XE)
inductive XA where | nil | cons (e:XE) (r:XA)
inductive XP where | nil | cons (k e:XE) (r:XP)
inductive XT where | tst (e:XE) | tru (e:XE) | and (a b:XT) | or (a b:XT) | not (a:XT) | yes
inductive XI where | lst (e:XE) | tup (e:XE) | str (e:XE) | rng1 (as:XA) | rng2 (as:XA) | dct (e:XE) | zip (as:XA) | sq (e:XE)
end
inductive XS where
 | skip | seq (a b:XS) | a6 (i:Nat) (e:XE) | ny (i:Nat) (e:XE) | yP (is:List Nat) (e:XE) | drop (e:XE) | ret (e:XE) | Bv
 | ifs (c:XT) (a b:XS) | fr (i:Nat) (it:XI) (b:XS) | frT (is:List Nat) (it:XI) (b:XS) | wh (n:Nat) (c:XT) (b:XS) | brk | cnt | nev | sto (m:uI) (i:Nat) (k e:XE)
def gNs:List Nat->TGs
 | []=>Bp
 | i :: r=>tw (cL i) (gNs r)
def gTp (K:PySem.W.Frag) (is:List Nat):TG:=Bi K is.length (gNs is)
noncomputable def Gb:Nat->List Nat:=List.range
def FJ:List TE->TE:=fun ts=>tFs ts Str.empty
def NoE:XK:=fun _ _ _=>False
def wH (K:PySem.W.Frag) (G I:Addr->Prop) (H:Hp) (d:PyData) (v:V):Prop:=match d with
 | .tuple ds=>Dm K G H (.tuple ds) v
 | d=>∃ a,v=.ref a/\d3 K G I H d a
def bp (K:PySem.W.Frag) (G I:Addr->Prop) (H:Hp):List PM->List PyData->List V->List Addr->Prop
 | [],[],[],is=>is=[]
 | .dat :: ms,d :: ds,v :: vs,is=>Dm K G H d v/\bp K G I H ms ds vs is
 | .bor :: ms,d :: ds,v :: vs,is=>wH K G I H d v/\bp K G I H ms ds vs is
 | .ino :: ms,d :: ds,v :: vs,is=>∃ a r,v=.ref a/\is=a :: r/\G a/\Top K G H d a/\a ∉ r/\bp K G I H ms ds vs r
 | _,_,_,_=>False
def gH (K:PySem.W.Frag) (G:Addr->Prop) (H:Hp):List PyData->List Addr->Prop
 | [],[]=>True
 | d :: ds,a :: r=>Top K G H d a/\gH K G H ds r
 | _,_=>False
def C0 (K:PySem.W.Frag) (G:Addr->Prop) (H H':Hp) (outs:List PyData) (is:List Addr):PR->V->Prop
 | .dat d,v=>Dm K G H' d v/\gH K G H' outs is
 | .frs d,v=>∃ a,v=.ref a/\H a=none/\Top K (fun b=>G b\/b=a) H' d a/\gH K (fun b=>G b\/b=a) H' outs is
def fK (f:Fn) (K:PySem.W.Frag):Sp:=fun vs H Q _=>∃ (G:Addr->Prop) (ds:List PyData) (is:List Addr) (pr:PR) (outs:List PyData),f.F ds=some (pr,outs)/\bp K G (·∈is) H f.ms ds vs is/\(∀ b,G b->H b≠none) /\
 ∀ v' H',(∀ b o,H b=some o->b ∉ is->H' b=some o)->C0 K G H H' outs is pr v'->Q v' H'
section
variable (K:PySem.W.Frag) (ga:Nat->V)
mutual
noncomputable def rE:XE->TE
 | .var i=>qZ i | .mov i=>qZ i | .tke i=>qZ i | .cst c=>tC c.v | .glb g=>tC (ga g)
 | .prm p as=>tCB (p.r K) (rA as) | .met m o as=>tBM K m.T (m.r K) (rE o) (rA as) | .mtr m i as=>tBM K m.T (m.r K) (qZ i) (rA as) | .call f as=>pW (fK f K) [] NoE (rA as)
 | .tup as=>D8 (rA as) | .lst as=>CH (rA as) | .dsp as=>z7 (rP as) | .fst as=>FJ (rF as)
 | .ifx c a b=>tIf (rT c) (rE a) (rE b) | .wt a b=>vT (rE a) (rE b) | .orv a b=>Fh (rE a) (rE b) | .xH a=>B0 (rE a)
 | .chn p q a b c=>AY (fun x y=>p.r K [x,y]) (fun x y=>q.r K [x,y]) (rE a) (rE b) (rE c)
 | .sl2 p a b c=>fun σ H Q=>rE a σ H fun x H1=>rE b σ H1 fun y H2=>∃ i,y=.int i/\rE c σ H2 fun z H3=>∃ j,z=.int j/\(p i j).r K [x] H3 Q
 | .cmp js it c e=>nu js (rI_ it) (rT c) (rE e) | .xu n js it e=>qc n js (rI_ it) (gTp K (List.range n.length)) (rE e)
noncomputable def rA:XA->TA
 | .nil=>v7 | .cons e r=>jA (rE e) (rA r)
noncomputable def rF:XA->List TE
 | .nil=>[] | .cons e r=>rE e :: rF r
noncomputable def rP:XP->List (TE×TE)
 | .nil=>[] | .cons k e r=>(rE k,rE e) :: rP r
noncomputable def rT:XT->TT
 | .tst e=>tB (rE e) | .tru e=>FU K (rE e) | .and a b=>Ed (rT a) (rT b) | .or a b=>tOr (rT a) (rT b) | .not a=>FE (rT a) | .yes=>DH
noncomputable def rI_:XI->TI
 | .lst e=>rl K (rE e) | .tup e=>Bh K (rE e) | .str e=>Ff (rE e) | .rng1 as=>vP (rA as) | .rng2 as=>B7 (rA as) | .dct e=>E8 (rE e) | .zip as=>Fz K (rA as) | .sq e=>E5 K (rE e)
end
def rS:XS->TS
 | .skip=>we | .seq a b=>Ef (rS a) (rS b) | .a6 i e=>pP (rE K ga e) (cL i) | .ny i e=>pP (rE K ga e) (cL i) | .yP is e=>pP (rE K ga e) (gTp K is) | .drop e=>xf (rE K ga e) | .ret e=>DV (rE K ga e) | .Bv=>Cm
 | .ifs c a b=>CA (rT K ga c) (rS a) (rS b) | .fr i it b=>zy (rI_ K ga it) (cL i) (rS b) | .frT is it b=>zy (rI_ K ga it) (gTp K is) (rS b) | .wh n c b=>zY (rT K ga c) (rS b) | .brk=>zu | .cnt=>B6 | .nev=>z8
 | .sto m i k e=>fun D σ H=>rE K ga e σ H fun x H1=>qZ i σ H1 fun o H2=>rE K ga k σ H2 fun y H3=>m.r K o y x H3 (D.nx σ)
end
noncomputable def Eh:PyData->Bool
 | .none=>false | .bool b=>b | .int i=>i != 0 | .str x=>(x.length:Int) != 0 | .list ds=>!ds.isEmpty | .tuple ds=>!ds.isEmpty | .dict ds=>!ds.isEmpty
noncomputable def Ej:PyData->Bool | .dict _=>true | _=>false
noncomputable def kF (lk:Bool):Sl->Sl
 | .own d=>if lk then .ro d else .ino d
 | .ino d=>if lk then .ro d else .ino d
 | s=>s
noncomputable def cX (env:En) (lock:Option Nat) (js:List Nat):En:=js.map fun j=>kF (decide (lock=some j)) (env[j]?.getD .un)
noncomputable def aF:En->List Nat->En->En
 | env,j :: js,.ino d :: es=>aF (fg env j d) js es
 | env,_ :: js,_ :: es=>aF env js es
 | env,_,_=>env
noncomputable def qW (step:PyData->En->Option (Option PyData×En)):List PyData->En->Option (List PyData×En)
 | [],env=>some ([],env)
 | d :: ds,env=>match step d env with
  | some (y,e1)=>match qW step ds e1 with
   | some (ys,e2)=>some (y.toList++ys,e2)
   | none=>none
  | none=>none
noncomputable def CS (env:En):PM->AV->Option PyData
 | .dat,.dat d=>some d
 | .bor,.dat (.list d)=>some (.list d)
 | .bor,.dat (.dict d)=>some (.dict d)
 | .bor,.dat (.tuple d)=>some (.tuple d)
 | .bor,.bor i=>cont env i
 | .ino,.bor i=>aA env i
 | _,_=>none
noncomputable def gX (env:En):List PM->List AV->Option (List PyData)
 | [],[]=>some []
 | m :: ms,a :: as=>match CS env m a,gX env ms as with
  | some d,some ds=>some (d :: ds)
  | _,_=>none
 | _,_=>none
noncomputable def bO:List PM->List AV->List Nat
 | .ino :: ms,.bor i :: as=>i :: bO ms as
 | _ :: ms,_ :: as=>bO ms as
 | _,_=>[]
noncomputable def nC:List PM->List AV->List Nat
 | .bor :: ms,.bor i :: as=>i :: nC ms as
 | _ :: ms,_ :: as=>nC ms as
 | _,_=>[]
noncomputable def cb:En->List Nat->List PyData->En
 | env,i :: is,d :: ds=>cb (fg env i d) is ds
 | env,_,_=>env
noncomputable def xb:List Nat->Bool
 | []=>true
 | x :: xs=>!xs.contains x&&xb xs
noncomputable def ckA (is bs:List Nat) (n:Nat):Bool:=xb is&&(bs.all (fun i=>!is.contains i)&&n==is.length)
noncomputable def sf (f:Fn) (avs:List AV) (env:En):Option (RV×En) :=
 match gX env f.ms avs with
 | none=>none
 | some ds=>match f.F ds with
  | none=>none
  | some (pr,outs)=>if ckA (bO f.ms avs) (nC f.ms avs) outs.length=true then some (pr.rv,cb env (bO f.ms avs) outs) else none
noncomputable def aG (env:En):List AV->Option (List PyData)
 | []=>some []
 | a :: as=>match a.view env,aG env as with
  | some d,some ds=>some (d :: ds)
  | _,_=>none
noncomputable def AV.C4:AV->Bool | .dat _=>true | .bor _=>false
noncomputable def cj (env:En):List AV->Option (List (Bool×PyData))
 | []=>some []
 | a :: as=>match a.view env,cj env as with
  | some d,some ds=>some ((a.C4,d) :: ds)
  | _,_=>none
noncomputable def jw:List AV->Option (List PyData)
 | []=>some []
 | .dat d :: as=>match jw as with | some ds=>some (d :: ds) | none=>none
 | .bor _ :: _=>none
noncomputable def BH:List AV->Option (List Str)
 | []=>some []
 | .dat (.str x) :: as=>match BH as with | some ds=>some (x :: ds) | none=>none
 | _ :: _=>none
noncomputable def keyOf:PyData->Option Key | .int i=>some (.inl i) | .str x=>some (.inr x) | _=>none
noncomputable def putD (kvs:List (PyData×PyData)) (k d:PyData):List (PyData×PyData) :=
 if (kvs.any fun kv=>PyData.eqv kv.1 k)=true then kvs.map (fun kv=>if PyData.eqv kv.1 k=true then (kv.1,d) else kv) else kvs++[(k,d)]
noncomputable def getD (kvs:List (PyData×PyData)) (k:PyData):Option PyData:=(kvs.find? fun kv=>PyData.eqv kv.1 k).map (·.2)
noncomputable def bg (env:En):Option Nat->En
 | some i=>match env[i]? with | some (.own d)=>env.set i (.ro d) | some (.ino d)=>env.set i (.ro d) | _=>env
 | none=>env
noncomputable def ao (BC:En) (lock:Option Nat) (env:En):En:=match lock with
 | some i=>match BC[i]?,env[i]? with
  | some (.own _),some (.ro d)=>env.set i (.own d)
  | some (.ino _),some (.ro d)=>env.set i (.ino d)
  | _,_=>env
 | none=>env
noncomputable def eU (t:En->Option (Bool×En)) (b:En->Option (RV×En)) (d:PyData) (ec:En):Option (Option PyData×En):=match t (.dat d :: ec) with
 | some (true,e2)=>match b e2 with
  | some (rv,e3)=>match rv.av with | .dat y=>some (some y,e3.tail) | .bor _=>none
  | none=>none
 | some (false,e2)=>some (none,e2.tail)
 | none=>none
noncomputable def dZ (n:Nat) (b:En->Option (RV×En)) (d:PyData) (ec:En):Option (Option PyData×En):=match d with
 | .tuple xs=>if xs.length=n then match b (xs.map .dat++ec) with
   | some (rv,e3)=>match rv.av with | .dat y=>some (some y,e3.drop n) | .bor _=>none
   | none=>none
  else none
 | _=>none
noncomputable def roL (e:En):AV->Option (List PyData)
 | .dat (.list xs)=>some xs
 | .bor i=>match e[i]? with | some (.ro (.list xs))=>some xs | _=>none
 | _=>none
mutual
noncomputable def dE (gd:List PyData):XE->En->Option (RV×En)
 | .var i,env=>match env[i]? with | some (.dat d)=>some (.dat d,env) | some (.own _)=>some (.bor i,env) | some (.ino _)=>some (.bor i,env) | some (.ro _)=>some (.bor i,env) | _=>none
 | .mov i,env=>match env[i]? with | some (.own d)=>some (.dat d,env.set i (.dat d)) | _=>none
 | .tke i,env=>match env[i]? with | some (.own d)=>some (.frs d,env.set i .un) | _=>none
 | .cst c,env=>some (.dat c.d,env)
 | .glb g,env=>match gd[g]? with | some d=>some (.dat d,env) | none=>none
 | .prm p as,env=>match dA gd as env with
  | some (avs,e1)=>match aG e1 avs with
   | some ds=>match p.f ds with | some pr=>some (pr.rv,e1) | none=>none
   | none=>none
  | none=>none
 | .met m o as,env=>match dE gd o env with
  | some (rv,e1)=>match rv.view e1 with
   | some d0=>if m.ty d0=true then match dA gd as e1 with
     | some (avs,e2)=>match rv.view e2,aG e2 avs with
      | some d,some ds=>match m.f d ds with | some pr=>some (pr.rv,e2) | none=>none
      | _,_=>none
     | none=>none
    else none
   | none=>none
  | none=>none
 | .mtr m i as,env=>match aA env i with
  | some d0=>if m.ty d0=true then match dA gd as env with
    | some (avs,e1)=>match aA e1 i,cj e1 avs with
     | some d,some ds=>match m.f d ds with | some (d',x)=>some (.dat x,fg e1 i d') | none=>none
     | _,_=>none
    | none=>none
   else none
  | none=>none
 | .call f as,env=>match dA gd as env with
  | some (avs,e1)=>sf f avs e1
  | none=>none
 | .tup as,env=>match dA gd as env with
  | some (avs,e1)=>match jw avs with | some ds=>if ds.length<=sizeLine then some (.dat (.tuple ds),e1) else none | none=>none
  | none=>none
 | .lst as,env=>match dA gd as env with
  | some (avs,e1)=>match jw avs with | some ds=>if ds.length<=sizeLine then some (.frs (.list ds),e1) else none | none=>none
  | none=>none
 | .dsp as,env=>match dP gd as env with
  | some (kvs,e1)=>if kvs.length<=15 then some (.frs (.dict (kvs.foldl (fun acc kv=>putD acc (kD kv.1) kv.2) [])),e1) else none
  | none=>none
 | .fst as,env=>match dF gd as Str.empty env with
  | some (x,e1)=>some (.dat (.str x),e1)
  | none=>none
 | .ifx c a b,env=>match dT gd c env with
  | some (true,e1)=>dE gd a e1
  | some (false,e1)=>dE gd b e1
  | none=>none
 | .wt a b,env=>match dE gd a env with
  | some (.dat (.bool true),e1)=>dE gd b e1
  | some (.dat (.bool false),e1)=>some (.dat (.bool false),e1)
  | _=>none
 | .orv a b,env=>match dE gd a env with
  | some (.dat (.bool true),e1)=>some (.dat (.bool true),e1)
  | some (.dat (.bool false),e1)=>dE gd b e1
  | _=>none
 | .xH a,env=>match dE gd a env with
  | some (.dat (.bool x),e1)=>some (.dat (.bool (!x)),e1)
  | _=>none
 | .chn p q a b c,env=>match dE gd a env with
  | some (ra,e1)=>match dE gd b e1 with
   | some (rb,e2)=>match ra.av,rb.av with
    | .dat x,.dat y=>match p.f [x,y] with
     | some (.dat (.bool true))=>match dE gd c e2 with
      | some (rc,e3)=>match rc.av with
       | .dat z=>match q.f [y,z] with | some pr=>some (pr.rv,e3) | none=>none
       | _=>none
      | none=>none
     | some (.dat (.bool false))=>some (.dat (.bool false),e2)
     | _=>none
    | _,_=>none
   | none=>none
  | none=>none
 | .sl2 p a b c,env=>match dE gd a env with
  | some (ra,e1)=>match dE gd b e1 with
   | some (.dat (.int i),e2)=>match dE gd c e2 with
    | some (.dat (.int j),e3)=>match ra.view e3 with
     | some d=>match (p i j).f [d] with | some pr=>some (pr.rv,e3) | none=>none
     | none=>none
    | _=>none
   | _=>none
  | none=>none
 | .cmp js it c e,env=>match dI gd it env with
  | some (ds,lock,e1)=>if js.Nodup then match qW (eU (dT gd c) (dE gd e)) ds (cX e1 lock js) with
    | some (ys,ec)=>some (.frs (.list ys),aF e1 js ec)
    | none=>none
   else none
  | none=>none
 | .xu n js it e,env=>match dI gd it env with
  | some (ds,lock,e1)=>if js.Nodup then match qW (dZ n.length (dE gd e)) ds (cX e1 lock js) with
    | some (ys,ec)=>some (.frs (.list ys),aF e1 js ec)
    | none=>none
   else none
  | none=>none
noncomputable def dA (gd:List PyData):XA->En->Option (List AV×En)
 | .nil,env=>some ([],env)
 | .cons e r,env=>match dE gd e env with
  | some (rv,e1)=>match dA gd r e1 with
   | some (avs,e2)=>some (rv.av :: avs,e2)
   | none=>none
  | none=>none
noncomputable def dF (gd:List PyData):XA->Str->En->Option (Str×En)
 | .nil,out,env=>if out.length<=sizeLine then some (out,env) else none
 | .cons e r,out,env=>match dE gd e env with
  | some (.dat (.str x),e1)=>if (out++x).length<=sizeLine then dF gd r (out++x) e1 else none
  | _=>none
noncomputable def dP (gd:List PyData):XP->En->Option (List (Key×PyData)×En)
 | .nil,env=>some ([],env)
 | .cons k e r,env=>match dE gd k env with
  | some (rk,e1)=>match dE gd e e1 with
   | some (rv,e2)=>match dP gd r e2 with
    | some (kvs,e3)=>match rk.av,rv.av with
     | .dat dk,.dat d=>match keyOf dk with | some k=>some ((k,d) :: kvs,e3) | none=>none
     | _,_=>none
    | none=>none
   | none=>none
  | none=>none
noncomputable def dT (gd:List PyData):XT->En->Option (Bool×En)
 | .tst e,env=>match dE gd e env with | some (.dat (.bool b),e1)=>some (b,e1) | _=>none
 | .tru e,env=>match dE gd e env with
  | some (rv,e1)=>match rv.view e1 with | some d=>if Ej d=true then none else some (Eh d,e1) | none=>none
  | none=>none
 | .and a b,env=>match dT gd a env with | some (true,e1)=>dT gd b e1 | some (false,e1)=>some (false,e1) | none=>none
 | .or a b,env=>match dT gd a env with | some (true,e1)=>some (true,e1) | some (false,e1)=>dT gd b e1 | none=>none
 | .not a,env=>match dT gd a env with | some (b,e1)=>some (!b,e1) | none=>none
 | .yes,env=>some (true,env)
noncomputable def dI (gd:List PyData):XI->En->Option (List PyData×Option Nat×En)
 | .lst e,env=>match dE gd e env with
  | some (rv,e1)=>match rv.av with
   | .dat (.list ds)=>some (ds,none,e1)
   | .dat _=>none
   | .bor i=>match cont e1 i with | some (.list ds)=>some (ds,some i,e1) | _=>none
  | none=>none
 | .dct e,env=>match dE gd e env with
  | some (rv,e1)=>match rv.av with
   | .dat (.dict kvs)=>some (kvs.map (·.1),none,e1)
   | .dat _=>none
   | .bor i=>match cont e1 i with | some (.dict kvs)=>some (kvs.map (·.1),some i,e1) | _=>none
  | none=>none
 | .tup e,env=>match dE gd e env with
  | some (rv,e1)=>match rv.av with | .dat (.tuple ds)=>some (ds,none,e1) | _=>none
  | none=>none
 | .sq e,env=>match dE gd e env with
  | some (rv,e1)=>match rv.av with
   | .dat (.list ds)=>some (ds,none,e1)
   | .dat (.tuple ds)=>some (ds,none,e1)
   | .dat _=>none
   | .bor i=>match cont e1 i with | some (.list ds)=>some (ds,some i,e1) | _=>none
  | none=>none
 | .str e,env=>match dE gd e env with
  | some (rv,e1)=>match rv.av with | .dat (.str x)=>some (x.cps.toList.map fun c=>.str ⟨#[c]⟩,none,e1) | _=>none
  | none=>none
 | .rng1 as,env=>match dA gd as env with
  | some (avs,e1)=>match avs with | [.dat (.int j)]=>if -(2 ^ 62)<=j/\j<=2 ^ 24 then some ((List.range j.toNat).map fun (k:Nat)=>.int ((0:Int)+(k:Int)),none,e1) else none | _=>none
  | none=>none
 | .zip as,env=>match dA gd as env with
  | some (avs,e1)=>match avs with
   | [x,y]=>match roL e1 x,roL e1 y with | some xs,some ys=>some ((xs.zip ys).map fun p=>.tuple [p.1,p.2],none,e1) | _,_=>none
   | _=>none
  | none=>none
 | .rng2 as,env=>match dA gd as env with
  | some (avs,e1)=>match avs with | [.dat (.int i),.dat (.int j)]=>if -(2 ^ 62)<=i/\i < 2 ^ 62/\-(2 ^ 62)<=j/\j < 2 ^ 62/\j - i<=2 ^ 24 then some ((List.range (j - i).toNat).map fun (k:Nat)=>.int (i+(k:Int)),none,e1) else none | _=>none
  | none=>none
end
noncomputable def lkd (env:En):Option Nat->Bool
 | some i=>match env[i]? with | some (.own _)=>true | some (.ino _)=>true | _=>false
 | none=>false
noncomputable def RV.soft (b:Bool):RV->RV | .frs d=>if b then .dat d else .frs d | r=>r
inductive Out where | nx (env:En) | rt (rv:RV) (env:En) | bk (env:En) | ct (env:En)
noncomputable def Out.map (b:Bool) (f:En->En):Out->Out | .nx e=>.nx (f e) | .rt r e=>.rt (r.soft b) (f e) | .bk e=>.bk (f e) | .ct e=>.ct (f e)
noncomputable def forL (b:PyData->En->Option Out):List PyData->En->Option Out
 | [],env=>some (.nx env)
 | d :: ds,env=>match b d env with
  | some (.nx e)=>forL b ds e
  | some (.ct e)=>forL b ds e
  | some (.bk e)=>some (.nx e)
  | some (.rt r e)=>some (.rt r e)
  | none=>none
noncomputable def whL (t:En->Option (Bool×En)) (b:En->Option Out):Nat->En->Option Out
 | 0,_=>none
 | n+1,env=>match t env with
  | some (true,e1)=>match b e1 with
   | some (.nx e)=>whL t b n e
   | some (.ct e)=>whL t b n e
   | some (.bk e)=>some (.nx e)
   | some (.rt r e)=>some (.rt r e)
   | none=>none
  | some (false,e1)=>some (.nx e1)
  | none=>none
noncomputable def free (env:En) (i:Nat):Bool:=match env[i]? with | some .un=>true | some (.dat _)=>true | some (.own _)=>true | _=>false
noncomputable def d7:En->List Nat->List PyData->Option En
 | env,[],[]=>some env
 | env,i :: is,d :: ds=>if free env i=true then d7 (env.set i (.dat d)) is ds else none
 | _,_,_=>none
noncomputable def fb (i:Nat) (b:En->Option Out) (d:PyData) (e:En):Option Out:=if free e i=true then b (e.set i (.dat d)) else none
noncomputable def gP (is:List Nat) (b:En->Option Out) (d:PyData) (e:En):Option Out:=match d with
 | .tuple xs=>match d7 e is xs with | some e2=>b e2 | none=>none
 | _=>none
noncomputable def dS (gd:List PyData):XS->En->Option Out
 | .skip,env=>some (.nx env)
 | .seq a b,env=>match dS gd a env with
  | some (.nx e)=>dS gd b e
  | o=>o
 | .a6 i e,env=>match dE gd e env with
  | some (rv,e1)=>match rv.av with | .dat d=>if free e1 i=true then some (.nx (e1.set i (.dat d))) else none | .bor _=>none
  | none=>none
 | .ny i e,env=>match dE gd e env with
  | some (.frs d,e1)=>if free e1 i=true then some (.nx (e1.set i (.own d))) else none
  | _=>none
 | .yP is e,env=>match dE gd e env with
  | some (rv,e1)=>match rv.av with
   | .dat (.tuple ds)=>match d7 e1 is ds with | some e2=>some (.nx e2) | none=>none
   | _=>none
  | none=>none
 | .drop e,env=>match dE gd e env with | some (_,e1)=>some (.nx e1) | none=>none
 | .ret e,env=>match dE gd e env with | some (rv,e1)=>some (.rt rv e1) | none=>none
 | .Bv,env=>some (.rt (.dat .none) env)
 | .ifs c a b,env=>match dT gd c env with
  | some (true,e1)=>dS gd a e1
  | some (false,e1)=>dS gd b e1
  | none=>none
 | .fr i it b,env=>match dI gd it env with
  | some (ds,lock,e1)=>(forL (fb i (dS gd b)) ds (bg e1 lock)).map (Out.map (lkd e1 lock) (ao e1 lock))
  | none=>none
 | .frT is it b,env=>match dI gd it env with
  | some (ds,lock,e1)=>(forL (gP is (dS gd b)) ds (bg e1 lock)).map (Out.map (lkd e1 lock) (ao e1 lock))
  | none=>none
 | .wh n c b,env=>whL (dT gd c) (dS gd b) n env
 | .brk,env=>some (.bk env)
 | .cnt,env=>some (.ct env)
 | .nev,_=>none
 | .sto m i k e,env=>match dE gd e env with
  | some (rv,e1)=>match rv.av with
   | .dat x=>match aA e1 i with
    | some _=>match dE gd k e1 with
     | some (rk,e2)=>match rk.view e2,aA e2 i with
      | some dk,some d=>match m.f d dk x with | some d'=>some (.nx (fg e2 i d')) | none=>none
      | _,_=>none
     | none=>none
    | none=>none
   | .bor _=>none
  | none=>none
noncomputable def wj:PyData->Sl | .tuple ds=>.dat (.tuple ds) | d=>.ro d
noncomputable def ae:List PM->List PyData->Nat->En
 | .dat :: ms,d :: ds,n=>.dat d :: ae ms ds (n - 1)
 | .bor :: ms,d :: ds,n=>wj d :: ae ms ds (n - 1)
 | .ino :: ms,d :: ds,n=>.ino d :: ae ms ds (n - 1)
 | _,_,n=>List.replicate n .un
noncomputable def gF:List PM->En->Option (List PyData)
 | .ino :: ms,.ino d :: es=>match gF ms es with | some ds=>some (d :: ds) | none=>none
 | .ino :: _,_=>none
 | _ :: ms,_ :: es=>gF ms es
 | _,_=>some []
noncomputable def RV.pr:RV->Option PR | .dat d=>some (.dat d) | .frs d=>some (.frs d) | .bor _=>none
noncomputable def gS (gd:List PyData) (ms:List PM) (n:Nat) (b:XS):Fn where
 ms:=ms
 F:=fun ds=>if ds.length=ms.length then match dS gd b (ae ms ds n) with
   | some (.rt rv env)=>match rv.pr,gF ms env with | some pr,some outs=>some (pr,outs) | _,_=>none
   | some (.nx env)=>match gF ms env with | some outs=>some (.dat .none,outs) | none=>none
   | _=>none
  else none
open PySem
theorem ay.rf (H:Hp):ay H H:=fun _ _ h=>h
theorem ay.nw {H:Hp} {a:Addr} (o:HO) (h:H a=none):ay H (upd H a o):=fun b u q=>by rw [ag (ak q h)];exact q
section
variable {K:Fg} {F F' I I' F0:Addr->Prop} {H H' H₀:Hp} {env env':En} {σ σ':St} {ga:Nat->V} {gd:List PyData}
def cZ (K:Fg) (F0:Addr->Prop) (H₀:Hp) (I:Addr->Prop) (env:En) (σ:St) (H:Hp):RV->V->Prop
 | .dat d,v=>Dm K (FF F0 env σ) H d v
 | .bor i,v=>σ[i]?=some (some v)
 | .frs d,v=>∃ a,v=.ref a/\Rel K (fun b=>F0 b\/b=a) H₀ I env σ H/\Top K (fun b=>FF F0 env σ b\/b=a) H d a/\(H₀ a=none\/I a)/\¬FF F0 env σ a/\(∀ (i:Nat) (d':PyData),env[i]?=some (.ino d')->σ[i]?≠some (some (.ref a))) /\
   ∀ (i:Nat) (d':PyData),env[i]?=some (.ro d')->∃ b,σ[i]?=some (some (.ref b))/\d3 K (fun b=>FF F0 env σ b\/b=a) (fun b=>IA env σ b\/b=a) H d' b
def uY (K:Fg) (F0:Addr->Prop) (env:En) (σ:St) (H:Hp):AV->V->Prop
 | .dat d,v=>Dm K (FF F0 env σ) H d v
 | .bor i,v=>σ[i]?=some (some v)
def fC (K:Fg) (F0:Addr->Prop) (env:En) (σ:St) (H:Hp):List AV->List V->Prop
 | [],vs=>vs=[]
 | a :: as,vs=>∃ v r,vs=v :: r/\uY K F0 env σ H a v/\fC K F0 env σ H as r
theorem cZ.av {rv:RV} {v:V} (h:cZ K F0 H₀ I env σ H rv v):uY K F0 env σ H rv.av v:=by
 cases rv with
 | dat d=>exact h
 | bor i=>exact h
 | frs d =>
  obtain ⟨a,e,R,t,_,n,_⟩:=h;subst e;exact (t.pr Pr.refl (F':=FF F0 env σ) (fun _ z=>.inl z) (fun _ z=>z)).dm n
theorem uY.keep (R:Rel K F0 H₀ I env σ H) (S:Rel K F0 H (IA env σ) env' σ H') (k:KpE env env') {a:AV} {v:V} (h:uY K F0 env σ H a v):uY K F0 env' σ H' a v:=by
 cases a with
 | dat d=>exact R.lX S k h
 | bor i=>exact h
theorem Rel.Cr (R:Rel K F0 H₀ I env σ H) {i:Nat} {d:PyData} {v:V} (h:cont env i=some d) (s:σ[i]?=some (some v)):Vw K (FF F0 env σ) H d v:=by
 unfold cont at h;cases e:env[i]? with
 | none=>rw [e] at h;cases h
 | some sl =>
  rw [e] at h;cases sl with
  | un=>cases h
  | dat _=>cases h
  | own d' =>
   cases h;obtain ⟨a,q,_,_,t⟩:=R.own i d e;rw [s] at q;cases q;exact t.r.vw
  | ino d' =>
   cases h;obtain ⟨a,q,_,_,t⟩:=R.ino i d e;rw [s] at q;cases q;exact t.r.vw
  | ro d' =>
   cases h;obtain ⟨a,q,t⟩:=R.ro i d e;rw [s] at q;cases q;exact t.r.vw
theorem Rel.cv (R:Rel K F0 H₀ I env σ H) {i:Nat} {d:PyData} (h:aA env i=some d):mu env i/\∃ a,σ[i]?=some (some (.ref a))/\FF F0 env σ a/\Top K (FF F0 env σ) H d a:=by
 unfold aA at h;cases e:env[i]? with
 | none=>rw [e] at h;cases h
 | some sl =>
  rw [e] at h;cases sl with
  | un=>cases h
  | dat _=>cases h
  | own d' =>
   cases h;obtain ⟨a,q,_,_,t⟩:=R.own i d e;exact ⟨⟨d,.inl e⟩,a,q,.inr ⟨i,d,e,q⟩,t⟩
  | ino d' =>
   cases h;obtain ⟨a,q,f,_,t⟩:=R.ino i d e;exact ⟨⟨d,.inr e⟩,a,q,.inl f,t⟩
  | ro d'=>cases h
theorem uY.vw (R:Rel K F0 H₀ I env σ H) {a:AV} {v:V} {d:PyData} (h:uY K F0 env σ H a v) (e:a.view env=some d):Vw K (FF F0 env σ) H d v:=by
 cases a with
 | dat d'=>cases e;exact Dm.vw h
 | bor i=>exact R.Cr e h
theorem fC.vw (R:Rel K F0 H₀ I env σ H):∀ {as:List AV} {vs:List V} {ds:List PyData},fC K F0 env σ H as vs->aG env as=some ds->VwL K (FF F0 env σ) H ds vs
 | [],_,ds,h,e=>by cases e;exact h
 | a :: as,_,ds,h,e=>by
  obtain ⟨v,r,rfl,h1,h2⟩:=h;unfold aG at e;cases e1:a.view env with
  | none=>rw [e1] at e;cases e
  | some d =>
   cases e2:aG env as with
   | none=>rw [e1,e2] at e;cases e
   | some ds' =>
    rw [e1,e2] at e;cases e;exact ⟨v,r,rfl,h1.vw R e1,fC.vw R h2 e2⟩
theorem fC.mv (R:Rel K F0 H₀ I env σ H):∀ {as:List AV} {vs:List V} {ds:List (Bool×PyData)},fC K F0 env σ H as vs->cj env as=some ds->MvL K (FF F0 env σ) H ds vs
 | [],_,ds,h,e=>by cases e;exact h
 | a :: as,_,ds,h,e=>by
  obtain ⟨v,r,rfl,h1,h2⟩:=h;unfold cj at e;cases e1:a.view env with
  | none=>rw [e1] at e;cases e
  | some d =>
   cases e2:cj env as with
   | none=>rw [e1,e2] at e;cases e
   | some ds' =>
    rw [e1,e2] at e;cases e;have ih:=fC.mv R h2 e2;cases a with
    | dat d'=>cases e1;exact ⟨v,r,rfl,h1,ih⟩
    | bor i=>exact ⟨v,r,rfl,h1.vw R e1,ih⟩
theorem fC.C7:∀ {as:List AV} {vs:List V} {ds:List PyData},fC K F0 env σ H as vs->jw as=some ds->DmL K (FF F0 env σ) H ds vs
 | [],_,ds,h,e=>by cases e;exact h
 | .dat d :: as,_,ds,h,e=>by
  obtain ⟨v,r,rfl,h1,h2⟩:=h;unfold jw at e;cases e2:jw as with
  | none=>rw [e2] at e;cases e
  | some ds' =>
   rw [e2] at e;cases e;exact ⟨v,r,rfl,h1,fC.C7 h2 e2⟩
 | .bor i :: as,_,ds,h,e=>by unfold jw at e;cases e
theorem d3.uE {d:PyData} {a c:Addr} (hc:H c=none) (h:d3 K F I H d a):d3 K F (fun b=>I b\/b=c) H d a:=by
 cases d with
 | list ds=>obtain ⟨xs,e,z,r⟩:=h;exact ⟨xs,e.fresh hc,z,r⟩
 | dict ds =>
  obtain ⟨ep,xs,n,e,z,r⟩:=h;exact ⟨ep,xs,fun q=>q.elim n fun q=>(by subst q;rw [hc] at e;cases e),e,z,r⟩
 | _=>exact absurd h id
theorem Rel.j6 (R:Rel K F0 H₀ I env σ H) (s:ay H H') {pr:PR} {v:V} (h:ur K (FF F0 env σ) H H' pr v):cZ K F0 H₀ I env σ H' pr.rv v:=by
 cases pr with
 | dat d=>exact h
 | frs d =>
  obtain ⟨a,e,hn,t⟩:=h;refine ⟨a,e,R.fresh hn s ?_,t,R.oi (.inl hn),fun z=>R.c6 z hn,fun i d' e' q=>?_,fun i d' e'=>?_⟩
  ·obtain ⟨o,q,_⟩:=t.wr;rw [q];exact nofun
  ·obtain ⟨o,z,_⟩:=R.iaT ⟨i,⟨d',.inr e'⟩,q⟩;rw [hn] at z;cases z
  ·obtain ⟨b,q,t'⟩:=R.ro i d' e';exact ⟨b,q,((t'.fresh hn).uE hn).pr (Pr.of_same s) (fun _ z=>z) (fun _ z=>z) fun b o z _=>s _ _ z⟩
theorem n8 (env:En) (i:Nat) (d:PyData):KpE env (fg env i d):=by
 unfold fg;cases e:env[i]? with
 | none=>exact KpE.refl _
 | some sl =>
  have hi:i < env.length:=(Gh.mp e).1;cases sl with
  | un=>exact KpE.refl _
  | dat _=>exact KpE.refl _
  | ro _=>exact KpE.refl _
  | own d' =>
   refine ⟨Ha,fun j s h=>?_⟩;by_cases z:i=j
   ·subst z;rw [e] at h;cases h;exact ⟨.own d,by rw [GC hi],.inl ⟨d,rfl⟩⟩
   ·exact ⟨s,by rw [Gk z];exact h,.refl s⟩
  | ino d' =>
   refine ⟨Ha,fun j s h=>?_⟩;by_cases z:i=j
   ·subst z;rw [e] at h;cases h;exact ⟨.ino d,by rw [GC hi],⟨d,rfl⟩⟩
   ·exact ⟨s,by rw [Gk z];exact h,.refl s⟩
def SmK (env env':En):Prop:=env'.length=env.length/\∀ i:Nat,env'[i]?=env[i]?\/(∃ d d',env[i]?=some (.own d)/\env'[i]?=some (.own d'))\/∃ d d',env[i]?=some (.ino d)/\env'[i]?=some (.ino d')
theorem SmK.refl (env:En):SmK env env:=⟨rfl,fun _=>.inl rfl⟩
theorem SmK.trans {e1 e2 e3:En} (a:SmK e1 e2) (b:SmK e2 e3):SmK e1 e3:=⟨b.1.trans a.1,fun i=>by
 rcases b.2 i with h | ⟨d,d',h,h'⟩ | ⟨d,d',h,h'⟩
 ·rw [h];exact a.2 i
 ·rcases a.2 i with q | ⟨c,c',q,q'⟩ | ⟨c,c',q,q'⟩
  ·exact .inr (.inl ⟨d,d',by rw [<- q];exact h,h'⟩)
  ·exact .inr (.inl ⟨c,d',q,h'⟩)
  ·rw [h] at q';cases q'
 ·rcases a.2 i with q | ⟨c,c',q,q'⟩ | ⟨c,c',q,q'⟩
  ·exact .inr (.inr ⟨d,d',by rw [<- q];exact h,h'⟩)
  ·rw [h] at q';cases q'
  ·exact .inr (.inr ⟨c,d',q,h'⟩)⟩
theorem SmK.kp (k:SmK env env'):KpE env env':=⟨k.1,fun i s e=>by
 rcases k.2 i with h | ⟨d,d',h,h'⟩ | ⟨d,d',h,h'⟩
 ·exact ⟨s,by rw [h];exact e,.refl s⟩
 ·rw [e] at h;cases h;exact ⟨_,h',.inl ⟨d',rfl⟩⟩
 ·rw [e] at h;cases h;exact ⟨_,h',⟨d',rfl⟩⟩⟩
theorem SmK.symm (k:SmK env env'):SmK env' env:=⟨k.1.symm,fun i=>by
 rcases k.2 i with h | ⟨d,d',h,h'⟩ | ⟨d,d',h,h'⟩
 ·exact .inl h.symm
 ·exact .inr (.inl ⟨d',d,h',h⟩)
 ·exact .inr (.inr ⟨d',d,h',h⟩)⟩
theorem SmK.ff (k:SmK env env'):FF F0 env' σ=FF F0 env σ:=by
 funext b;exact propext ⟨fun h=>k.kp.ff h,fun h=>k.symm.kp.ff h⟩
theorem SmK.ia (k:SmK env env'):IA env' σ=IA env σ:=by
 funext b;exact propext ⟨fun h=>k.kp.ia h,fun h=>k.symm.kp.ia h⟩
theorem cQ (env:En) (i:Nat) (d:PyData):SmK env (fg env i d):=by
 unfold fg;cases e:env[i]? with
 | none=>exact SmK.refl _
 | some sl =>
  have hi:i < env.length:=(Gh.mp e).1;cases sl with
  | un=>exact SmK.refl _
  | dat _=>exact SmK.refl _
  | ro _=>exact SmK.refl _
  | own d' =>
   refine ⟨Ha,fun j=>?_⟩;by_cases z:i=j
   ·subst z;exact .inr (.inl ⟨d',d,e,by rw [GC hi]⟩)
   ·exact .inl (by rw [Gk z])
  | ino d' =>
   refine ⟨Ha,fun j=>?_⟩;by_cases z:i=j
   ·subst z;exact .inr (.inr ⟨d',d,e,by rw [GC hi]⟩)
   ·exact .inl (by rw [Gk z])
theorem jj {env:En} {i:Nat} {d:PyData} (h:mu env i):aA (fg env i d) i=some d:=by
 unfold fg aA;obtain ⟨d',e | e⟩:=h
 ·have hi:i < env.length:=(Gh.mp e).1;rw [e];simp only;rw [GC hi]
 ·have hi:i < env.length:=(Gh.mp e).1;rw [e];simp only;rw [GC hi]
theorem i4 {env:En} {i j:Nat} {d:PyData} (h:j≠i):(fg env i d)[j]?=env[j]?:=by
 unfold fg;split <;> first | rfl | rw [Gk (Ne.symm h)]
theorem lR {env:En} {i:Nat} {d:PyData} (h:aA env i=some d):env[i]?=some (.own d)\/env[i]?=some (.ino d):=by
 unfold aA at h;split at h
 ·rename_i e;cases h;exact .inl e
 ·rename_i e;cases h;exact .inr e
 ·cases h
theorem Rel.chg (R:Rel K F0 H₀ I env σ H) (k:SmK env env') (hk:∀ b o,H b=some o->¬IA env σ b->H' b=some o) (ht:∀ i d a,aA env' i=some d->σ[i]?=some (some (.ref a))->Top K (FF F0 env σ) H' d a):Rel K F0 H₀ I env' σ H':=by
 have p:=R.mH hk;have eF:=k.ff (F0:=F0) (σ:=σ);have eI:=k.ia (σ:=σ);have mc:∀ {i:Nat} {d:PyData},env'[i]?=some (.own d)\/env'[i]?=some (.ino d)->aA env' i=some d:=fun {i d} h=>by
  unfold aA;rcases h with h | h <;> rw [h]
 refine ⟨k.1.trans R.len,fun i d e=>?_,fun i d e=>?_,fun i d e=>?_,fun i d e=>?_,fun i j a h1 h2 h3 h4=>R.sep i j a (k.kp.mu h1) (k.kp.mu h2) h3 h4,fun b h=>?_,fun b o h n=>?_⟩
 ·rcases k.2 i with q | ⟨c,c',q,q'⟩ | ⟨c,c',q,q'⟩
  ·rw [e] at q;obtain ⟨v,s,r⟩:=R.dat i d q.symm;rw [eF];exact ⟨v,s,r.pr p fun _ z=>z⟩
  ·rw [e] at q';cases q'
  ·rw [e] at q';cases q'
 ·have hm:=mc (.inl e);obtain ⟨d0,e0⟩:=k.kp.own e;obtain ⟨a,s,n,w,_⟩:=R.own i d0 e0;rw [eF];exact ⟨a,s,n,w,ht i d a hm s⟩
 ·have hm:=mc (.inr e);have:∃ d0,env[i]?=some (.ino d0):=by
   rcases k.2 i with q | ⟨c,c',q,q'⟩ | ⟨c,c',q,q'⟩
   ·exact ⟨d,by rw [<- q];exact e⟩
   ·rw [e] at q';cases q'
   ·exact ⟨c,q⟩
  obtain ⟨d0,e0⟩:=this;obtain ⟨a,s,n,w,_⟩:=R.ino i d0 e0;rw [eF];exact ⟨a,s,n,w,ht i d a hm s⟩
 ·have e0:env[i]?=some (.ro d):=by
   rcases k.2 i with q | ⟨c,c',q,q'⟩ | ⟨c,c',q,q'⟩
   ·rw [<- q];exact e
   ·rw [e] at q';cases q'
   ·rw [e] at q';cases q'
  obtain ⟨a,s,t⟩:=R.ro i d e0;rw [eF,eI];exact ⟨a,s,t.pr p (fun _ z=>z) (fun _ z=>z) hk⟩
 ·by_cases z:IA env σ b
  ·obtain ⟨i,m,s⟩:=z;have m':=k.symm.kp.mu m;obtain ⟨d,m'⟩:=m';obtain ⟨o,q,_⟩:=(ht i d b (mc m') s).wr;rw [q];exact nofun
  ·cases e:H b with
   | none=>exact absurd e (R.dom b h)
   | some o=>rw [hk b o e z];exact nofun
 ·refine hk b o (R.cB b o h n) fun z=>?_;rcases R.iaI z with q | q
  ·rw [h] at q;cases q
  ·exact n q
end
open PySem
section
variable {K:Fg} {F F' I I' F0:Addr->Prop} {H H' H₀:Hp} {env env':En} {σ σ':St} {ga:Nat->V} {gd:List PyData}
theorem get_set {α:Type} {l:List α} {i j:Nat} {x y:α} (h:(l.set i x)[j]?=some y):(i=j/\x=y)\/(i≠j/\l[j]?=some y):=by
 by_cases z:i=j
 ·subst z;by_cases hi:i < l.length
  ·rw [GC hi] at h;exact .inl ⟨rfl,Hr h⟩
  ·rw [HS (by rw [Ha];omega)] at h;cases h
 ·rw [Gk z] at h;exact .inr ⟨z,h⟩
theorem Rel.sub (R:Rel K F0 H₀ I env σ H) (i:Nat) (x:Option V):(∀ b,FF F0 (env.set i .un) (σ.set i x) b->FF F0 env σ b)/\(∀ b,IA (env.set i .un) (σ.set i x) b->IA env σ b):=by
 constructor
 ·rintro b (h | ⟨j,d,e,s⟩)
  ·exact .inl h
  ·rcases get_set e with ⟨_,z⟩ | ⟨n,e⟩
   ·cases z
   ·rw [Gk n] at s;exact .inr ⟨j,d,e,s⟩
 ·rintro b ⟨j,⟨d,e⟩,s⟩;have:∃ d,(env[j]?=some (.own d)\/env[j]?=some (.ino d))/\i≠j:=by
   rcases e with e | e
   ·rcases get_set e with ⟨_,z⟩ | ⟨n,e⟩
    ·cases z
    ·exact ⟨d,.inl e,n⟩
   ·rcases get_set e with ⟨_,z⟩ | ⟨n,e⟩
    ·cases z
    ·exact ⟨d,.inr e,n⟩
  obtain ⟨d,e,n⟩:=this;rw [Gk n] at s;exact ⟨j,⟨d,e⟩,s⟩
theorem Rel.forget (R:Rel K F0 H₀ I env σ H) (i:Nat) (x:Option V):Rel K F0 H₀ I (env.set i .un) (σ.set i x) H:=by
 obtain ⟨hf,hi⟩:=R.sub i x;have mm:∀ j,mu (env.set i .un) j->mu env j/\i≠j:=fun j h=>by
  obtain ⟨d,e | e⟩:=h
  ·rcases get_set e with ⟨_,z⟩ | ⟨n,e⟩
   ·cases z
   ·exact ⟨⟨d,.inl e⟩,n⟩
  ·rcases get_set e with ⟨_,z⟩ | ⟨n,e⟩
   ·cases z
   ·exact ⟨⟨d,.inr e⟩,n⟩
 refine ⟨by rw [Ha,Ha];exact R.len,fun j d e=>?_,fun j d e=>?_,fun j d e=>?_,fun j d e=>?_,fun j k a h1 h2 h3 h4=>?_,R.dom,R.cB⟩
 ·rcases get_set e with ⟨_,z⟩ | ⟨n,e⟩
  ·cases z
  obtain ⟨v,s,r⟩:=R.dat j d e;exact ⟨v,by rw [Gk n];exact s,r.mono hf⟩
 ·rcases get_set e with ⟨_,z⟩ | ⟨n,e⟩
  ·cases z
  obtain ⟨a,s,q,w,t⟩:=R.own j d e;exact ⟨a,by rw [Gk n];exact s,q,w,t.pr Pr.refl hf fun _ z=>z⟩
 ·rcases get_set e with ⟨_,z⟩ | ⟨n,e⟩
  ·cases z
  obtain ⟨a,s,q,w,t⟩:=R.ino j d e;exact ⟨a,by rw [Gk n];exact s,q,w,t.pr Pr.refl hf fun _ z=>z⟩
 ·rcases get_set e with ⟨_,z⟩ | ⟨n,e⟩
  ·cases z
  obtain ⟨a,s,t⟩:=R.ro j d e;exact ⟨a,by rw [Gk n];exact s,t.pr Pr.refl hf hi fun _ _ z _=>z⟩
 ·obtain ⟨m1,n1⟩:=mm j h1;obtain ⟨m2,n2⟩:=mm k h2;rw [Gk n1] at h3;rw [Gk n2] at h4;exact R.sep j k a m1 m2 h3 h4
theorem iA {i:Nat} {s:Sl} {x:Option V} (hu:env[i]?=some .un) (hs:∀ d,s≠.own d):FF F0 (env.set i s) (σ.set i x)=FF F0 env σ:=by
 funext b;apply propext;constructor
 ·rintro (h | ⟨j,d,e,q⟩)
  ·exact .inl h
  ·rcases get_set e with ⟨_,z⟩ | ⟨n,e⟩
   ·exact absurd z (hs d)
   ·rw [Gk n] at q;exact .inr ⟨j,d,e,q⟩
 ·rintro (h | ⟨j,d,e,q⟩)
  ·exact .inl h
  ·have n:i≠j:=fun z=>by subst z;rw [hu] at e;cases e
   exact .inr ⟨j,d,by rw [Gk n];exact e,by rw [Gk n];exact q⟩
theorem pz {i:Nat} {s:Sl} {x:Option V} (hu:env[i]?=some .un) (hs:∀ d,s≠.own d/\s≠.ino d):IA (env.set i s) (σ.set i x)=IA env σ:=by
 funext b;apply propext;constructor
 ·rintro ⟨j,⟨d,e | e⟩,q⟩
  ·rcases get_set e with ⟨_,z⟩ | ⟨n,e⟩
   ·exact absurd z (hs d).1
   ·rw [Gk n] at q;exact ⟨j,⟨d,.inl e⟩,q⟩
  ·rcases get_set e with ⟨_,z⟩ | ⟨n,e⟩
   ·exact absurd z (hs d).2
   ·rw [Gk n] at q;exact ⟨j,⟨d,.inr e⟩,q⟩
 ·rintro ⟨j,⟨d,e⟩,q⟩;have n:i≠j:=fun z=>by subst z;rw [hu] at e;rcases e with e | e <;> cases e
  refine ⟨j,⟨d,?_⟩,by rw [Gk n];exact q⟩;rw [Gk n];exact e
theorem Rel.putD (R:Rel K F0 H₀ I env σ H) {i:Nat} {d:PyData} {v:V} (hu:env[i]?=some .un) (h:Dm K (FF F0 env σ) H d v):Rel K F0 H₀ I (env.set i (.dat d)) (σ.set i (some v)) H:=by
 have hi:i < env.length:=(Gh.mp hu).1;have eF:FF F0 (env.set i (.dat d)) (σ.set i (some v))=FF F0 env σ:=iA hu (fun _=>nofun);have eI:IA (env.set i (.dat d)) (σ.set i (some v))=IA env σ:=pz hu (fun _=>⟨nofun,nofun⟩);have mm:∀ j,mu (env.set i (.dat d)) j->mu env j/\i≠j:=fun j h=>by
  obtain ⟨c,e | e⟩:=h
  ·rcases get_set e with ⟨_,z⟩ | ⟨n,e⟩
   ·cases z
   ·exact ⟨⟨c,.inl e⟩,n⟩
  ·rcases get_set e with ⟨_,z⟩ | ⟨n,e⟩
   ·cases z
   ·exact ⟨⟨c,.inr e⟩,n⟩
 refine ⟨by rw [Ha,Ha];exact R.len,fun j c e=>?_,fun j c e=>?_,fun j c e=>?_,fun j c e=>?_,fun j k a h1 h2 h3 h4=>?_,R.dom,R.cB⟩
 ·rw [eF];rcases get_set e with ⟨z,y⟩ | ⟨n,e⟩
  ·subst z;cases y;exact ⟨v,GC (by rw [<- R.len];exact hi),h⟩
  obtain ⟨w,s,r⟩:=R.dat j c e;exact ⟨w,by rw [Gk n];exact s,r⟩
 ·rw [eF];rcases get_set e with ⟨_,z⟩ | ⟨n,e⟩
  ·cases z
  obtain ⟨a,s,q,w,t⟩:=R.own j c e;exact ⟨a,by rw [Gk n];exact s,q,w,t⟩
 ·rw [eF];rcases get_set e with ⟨_,z⟩ | ⟨n,e⟩
  ·cases z
  obtain ⟨a,s,q,w,t⟩:=R.ino j c e;exact ⟨a,by rw [Gk n];exact s,q,w,t⟩
 ·rw [eF,eI];rcases get_set e with ⟨_,z⟩ | ⟨n,e⟩
  ·cases z
  obtain ⟨a,s,t⟩:=R.ro j c e;exact ⟨a,by rw [Gk n];exact s,t⟩
 ·obtain ⟨m1,n1⟩:=mm j h1;obtain ⟨m2,n2⟩:=mm k h2;rw [Gk n1] at h3;rw [Gk n2] at h4;exact R.sep j k a m1 m2 h3 h4
theorem Rel.EI {i:Nat} {d:PyData} {a:Addr} (hu:env[i]?=some .un) (h:cZ K F0 H₀ I env σ H (.frs d) (.ref a)):Rel K F0 H₀ I (env.set i (.own d)) (σ.set i (some (.ref a))) H:=by
 obtain ⟨a',ea,R,t,w,nF,hino,hro⟩:=h;cases ea;have hi:i < env.length:=(Gh.mp hu).1;have his:i < σ.length:=by rw [<- R.len];exact hi
 have eF:FF F0 (env.set i (.own d)) (σ.set i (some (.ref a)))=fun b=>FF F0 env σ b\/b=a:=by
  funext b;apply propext;constructor
  ·rintro (h | ⟨j,c,e,q⟩)
   ·exact .inl (.inl h)
   ·rcases get_set e with ⟨z,y⟩ | ⟨n,e⟩
    ·subst z;rw [GC his] at q;cases q;exact .inr rfl
    ·rw [Gk n] at q;exact .inl (.inr ⟨j,c,e,q⟩)
  ·rintro ((h | ⟨j,c,e,q⟩) | rfl)
   ·exact .inl h
   ·have n:i≠j:=fun z=>by subst z;rw [hu] at e;cases e
    exact .inr ⟨j,c,by rw [Gk n];exact e,by rw [Gk n];exact q⟩
   ·exact .inr ⟨i,d,GC hi,GC his⟩
 have eF2:FF (fun b=>F0 b\/b=a) env σ=fun b=>FF F0 env σ b\/b=a:=d6;have mm:∀ j,mu (env.set i (.own d)) j->i=j\/(mu env j/\i≠j):=fun j h=>by
  obtain ⟨c,e | e⟩:=h
  ·rcases get_set e with ⟨z,_⟩ | ⟨n,e⟩
   ·exact .inl z
   ·exact .inr ⟨⟨c,.inl e⟩,n⟩
  ·rcases get_set e with ⟨z,_⟩ | ⟨n,e⟩
   ·exact .inl z
   ·exact .inr ⟨⟨c,.inr e⟩,n⟩
 have eI:∀ b,IA (env.set i (.own d)) (σ.set i (some (.ref a))) b->IA env σ b\/b=a:=by
  rintro b ⟨j,m,q⟩;rcases mm j m with z | ⟨m',n⟩
  ·subst z;rw [GC his] at q;cases q;exact .inr rfl
  ·rw [Gk n] at q;exact .inl ⟨j,m',q⟩
 have na:∀ j,mu env j->σ[j]?≠some (some (.ref a)):=fun j m q=>by
  obtain ⟨c,e | e⟩:=m
  ·exact nF (.inr ⟨j,c,e,q⟩)
  ·exact hino j c e q
 refine ⟨by rw [Ha,Ha];exact R.len,fun j c e=>?_,fun j c e=>?_,fun j c e=>?_,fun j c e=>?_,fun j k b h1 h2 h3 h4=>?_,fun b h=>R.dom b (.inl h),R.cB⟩
 ·rw [eF];rcases get_set e with ⟨_,z⟩ | ⟨n,e⟩
  ·cases z
  obtain ⟨x,s,r⟩:=R.dat j c e;rw [eF2] at r;exact ⟨x,by rw [Gk n];exact s,r⟩
 ·rw [eF];rcases get_set e with ⟨z,y⟩ | ⟨n,e⟩
  ·subst z;cases y;exact ⟨a,GC his,fun z=>nF (.inl z),w,t⟩
  obtain ⟨b,s,q,w',t'⟩:=R.own j c e;rw [eF2] at t';exact ⟨b,by rw [Gk n];exact s,fun z=>q (.inl z),w',t'⟩
 ·rw [eF];rcases get_set e with ⟨_,z⟩ | ⟨n,e⟩
  ·cases z
  obtain ⟨b,s,q,w',t'⟩:=R.ino j c e;rw [eF2] at t';refine ⟨b,by rw [Gk n];exact s,?_,w',t'⟩;rcases q with q | q
  ·exact q
  ·subst q;exact absurd s (hino j c e)
 ·rw [eF];rcases get_set e with ⟨_,z⟩ | ⟨n,e⟩
  ·cases z
  obtain ⟨b,s,t'⟩:=hro j c e;exact ⟨b,by rw [Gk n];exact s,t'.pr Pr.refl (fun _ z=>z) eI fun _ _ z _=>z⟩
 ·rcases mm j h1 with z1 | ⟨m1,n1⟩
  ·rcases mm k h2 with z2 | ⟨m2,n2⟩
   ·rw [<- z1,<-z2]
   ·rw [<- z1,GC his] at h3;cases h3;rw [Gk n2] at h4;exact absurd h4 (na k m2)
  ·rw [Gk n1] at h3;rcases mm k h2 with z2 | ⟨m2,n2⟩
   ·rw [<- z2,GC his] at h4;cases h4;exact absurd h3 (na j m1)
   ·rw [Gk n2] at h4;exact R.sep j k b m1 m2 h3 h4
theorem Rel.take (R:Rel K F0 H₀ I env σ H) {i:Nat} {d:PyData} (e:env[i]?=some (.own d)):∃ a,σ[i]?=some (some (.ref a))/\cZ K F0 H₀ I (env.set i .un) σ H (.frs d) (.ref a):=by
 obtain ⟨a,s,nF0,w,t⟩:=R.own i d e;have hi:i < env.length:=(Gh.mp e).1;have mm:∀ j,mu (env.set i .un) j->mu env j/\i≠j:=fun j h=>by
  obtain ⟨c,e | e⟩:=h
  ·rcases get_set e with ⟨_,z⟩ | ⟨n,e⟩
   ·cases z
   ·exact ⟨⟨c,.inl e⟩,n⟩
  ·rcases get_set e with ⟨_,z⟩ | ⟨n,e⟩
   ·cases z
   ·exact ⟨⟨c,.inr e⟩,n⟩
 have eF:FF F0 env σ=fun b=>FF F0 (env.set i .un) σ b\/b=a:=by
  funext b;apply propext;constructor
  ·rintro (h | ⟨j,c,e',q⟩)
   ·exact .inl (.inl h)
   ·by_cases n:i=j
    ·subst n;rw [s] at q;cases q;exact .inr rfl
    ·exact .inl (.inr ⟨j,c,by rw [Gk n];exact e',q⟩)
  ·rintro ((h | ⟨j,c,e',q⟩) | rfl)
   ·exact .inl h
   ·rcases get_set e' with ⟨_,z⟩ | ⟨n,e'⟩
    ·cases z
    ·exact .inr ⟨j,c,e',q⟩
   ·exact .inr ⟨i,d,e,s⟩
 have eF2:FF (fun b=>F0 b\/b=a) (env.set i .un) σ=FF F0 env σ:=by rw [d6];exact eF.symm
 have na:∀ j,mu (env.set i .un) j->σ[j]?≠some (some (.ref a)):=fun j m q=>by
  obtain ⟨m',n⟩:=mm j m;exact n (R.sep i j a ⟨d,.inl e⟩ m' s q)
 have nF:¬FF F0 (env.set i .un) σ a:=by
  rintro (h | ⟨j,c,e',q⟩)
  ·exact nF0 h
  ·exact na j ⟨c,.inl e'⟩ q
 have ia:∀ b,IA (env.set i .un) σ b->IA env σ b:=fun b ⟨j,m,q⟩=>⟨j,(mm j m).1,q⟩;have ia2:∀ b,(IA (env.set i .un) σ b\/b=a)->IA env σ b:=fun b h=>h.elim (ia b) fun z=>z▸⟨i,⟨d,.inl e⟩,s⟩;have R':Rel K (fun b=>F0 b\/b=a) H₀ I (env.set i .un) σ H:=by
  refine ⟨by rw [Ha];exact R.len,fun j c e'=>?_,fun j c e'=>?_,fun j c e'=>?_,fun j c e'=>?_,fun j k b h1 h2 h3 h4=>R.sep j k b (mm j h1).1 (mm k h2).1 h3 h4,fun b h=>?_,R.cB⟩
  ·rw [eF2];rcases get_set e' with ⟨_,z⟩ | ⟨n,e'⟩
   ·cases z
   exact R.dat j c e'
  ·rw [eF2];have m:=e';rcases get_set e' with ⟨_,z⟩ | ⟨n,e'⟩
   ·cases z
   obtain ⟨b,s',q,w',t'⟩:=R.own j c e';exact ⟨b,s',fun z=>z.elim q fun z=>na j ⟨c,.inl m⟩ (z▸s'),w',t'⟩
  ·rw [eF2];rcases get_set e' with ⟨_,z⟩ | ⟨n,e'⟩
   ·cases z
   obtain ⟨b,s',q,w',t'⟩:=R.ino j c e';exact ⟨b,s',.inl q,w',t'⟩
  ·rw [eF2];rcases get_set e' with ⟨_,z⟩ | ⟨n,e'⟩
   ·cases z
   obtain ⟨b,s',t'⟩:=R.ro j c e';exact ⟨b,s',t'.pr Pr.refl (fun _ z=>z) ia fun _ _ z _=>z⟩
  ·rcases h with h | h
   ·exact R.dom b h
   ·obtain ⟨o,q,_⟩:=t.wr;rw [h,q];exact nofun
 refine ⟨a,s,a,rfl,R',by rw [eF] at t;exact t,w,nF,fun j c e'=>na j ⟨c,.inr e'⟩,fun j c e'=>?_⟩;rcases get_set e' with ⟨_,z⟩ | ⟨n,e'⟩
 ·cases z
 obtain ⟨b,s',t'⟩:=R.ro j c e';rw [eF] at t';exact ⟨b,s',t'.pr Pr.refl (fun _ z=>z) ia2 fun _ _ z _=>z⟩
theorem cZ.rel {d:PyData} {v:V} (h:cZ K F0 H₀ I env σ H (.frs d) v):Rel K F0 H₀ I env σ H:=by
 obtain ⟨a,_,R,_,_,_,hi,_⟩:=h;exact R.less hi
theorem set_same {α:Type} {l:List α} {i:Nat} {x:α} (h:l[i]?=some x):l.set i x=l:=by
 have hi:i < l.length:=(Gh.mp h).1;apply Jp;intro j;by_cases z:i=j
 ·subst z;rw [GC hi,h]
 ·rw [Gk z]
theorem Rel.mov (R:Rel K F0 H₀ I env σ H) {i:Nat} {d:PyData} (e:env[i]?=some (.own d)):∃ a,σ[i]?=some (some (.ref a))/\Rel K F0 H₀ I (env.set i (.dat d)) σ H/\Dm K (FF F0 (env.set i (.dat d)) σ) H d (.ref a):=by
 have hi:i < env.length:=(Gh.mp e).1;obtain ⟨a,s,h⟩:=R.take e;have R1:=h.rel;have hu:(env.set i .un)[i]?=some .un:=GC hi;have hd:Dm K (FF F0 (env.set i .un) σ) H d (.ref a):=cZ.av h;have R2:=R1.putD hu hd;rw [HZ,set_same s] at R2;refine ⟨a,s,R2,?_⟩;have eF:FF F0 (env.set i (.dat d)) σ=FF F0 (env.set i .un) σ:=by
  have:=iA (F0:=F0) (σ:=σ) (s:=.dat d) (x:=some (.ref a)) hu (fun _=>nofun);rw [HZ,set_same s] at this;exact this
 rw [eF];exact hd
theorem uG {i:Nat} {s s':Sl} (e:env[i]?=some s) (v:Evo s s'):KpE env (env.set i s'):=by
 have hi:i < env.length:=(Gh.mp e).1;refine ⟨Ha,fun j t h=>?_⟩;by_cases z:i=j
 ·subst z;rw [e] at h;cases h;exact ⟨s',GC hi,v⟩
 ·exact ⟨t,by rw [Gk z];exact h,.refl t⟩
end
open PySem
theorem c8 (x y:Str):(x++y).cps=x.cps++y.cps:=rfl
theorem bh {x y:Str} (h:PyData.strOk x=true) (q:PyData.strOk y=true):PyData.strOk (x++y)=true:=by
 unfold PyData.strOk at h q ⊢;rw [c8,Array.all_append,h,q];rfl
def SE (K:Fg) (ga:Nat->V) (gd:List PyData) (e:XE):Prop:=∀ (env:En) (rv:RV) (env':En),dE gd e env=some (rv,env')->∀ (F0:Addr->Prop) (H₀:Hp) (I:Addr->Prop) (σ:St) (H:Hp) (Q:VK),Rel K F0 H₀ I env σ H ->
 (∀ v H',Rel K F0 H₀ I env' σ H'->KpE env env'->cZ K F0 H₀ I env' σ H' rv v->Q v H')->rE K ga e σ H Q
def SA (K:Fg) (ga:Nat->V) (gd:List PyData) (e:XA):Prop:=∀ (env:En) (rv:List AV) (env':En),dA gd e env=some (rv,env')->∀ (F0:Addr->Prop) (H₀:Hp) (I:Addr->Prop) (σ:St) (H:Hp) (Q:List V->Hp->Prop),Rel K F0 H₀ I env σ H ->
 (∀ v H',Rel K F0 H₀ I env' σ H'->KpE env env'->fC K F0 env' σ H' rv v->Q v H')->rA K ga e σ H Q
def SF (K:Fg) (ga:Nat->V) (gd:List PyData) (e:XA):Prop:=∀ (out:Str) (env:En) (x:Str) (env':En),dF gd e out env=some (x,env')->∀ (F0:Addr->Prop) (H₀:Hp) (I:Addr->Prop) (σ:St) (H:Hp) (Q:VK),Rel K F0 H₀ I env σ H ->
 PyData.strOk out=true->(∀ H',Rel K F0 H₀ I env' σ H'->KpE env env'->x.length<=sizeLine->PyData.strOk x=true->Q (.str x) H')->tFs (rF K ga e) out σ H Q
def zF (K:Fg) (F:Addr->Prop) (H:Hp):List (Key×PyData)->List (Key×V)->Prop
 | [],vs=>vs=[]
 | (k,d) :: ds,vs=>∃ v r,vs=(k,v) :: r/\Dm K F H (kD k) (kV k)/\Dm K F H d v/\zF K F H ds r
def SPs (K:Fg) (ga:Nat->V) (gd:List PyData) (e:XP):Prop:=∀ (env:En) (kvs:List (Key×PyData)) (env':En),dP gd e env=some (kvs,env')->∀ (F0:Addr->Prop) (H₀:Hp) (I:Addr->Prop) (σ:St) (H:Hp) (Q:List (V×V)->Hp->Prop),Rel K F0 H₀ I env σ H ->
 (∀ vs H',Rel K F0 H₀ I env' σ H'->KpE env env'->zF K (FF F0 env' σ) H' kvs vs->Q (vs.map fun kv=>(kV kv.1,kv.2)) H')->o5 (rP K ga e) σ H Q
def ST (K:Fg) (ga:Nat->V) (gd:List PyData) (e:XT):Prop:=∀ (env:En) (b:Bool) (env':En),dT gd e env=some (b,env')->∀ (F0:Addr->Prop) (H₀:Hp) (I:Addr->Prop) (σ:St) (H:Hp) (Q:Bool->Hp->Prop),Rel K F0 H₀ I env σ H ->
 (∀ H',Rel K F0 H₀ I env' σ H'->KpE env env'->Q b H')->rT K ga e σ H Q
def ItY (K:Fg) (F:Addr->Prop) (H H' H'':Hp) (d:PyData) (x:V):Prop:=(H''=H'/\Dm K F H d x)\/∃ p u v d1 d2,d=.tuple [d1,d2]/\x=.ref p/\H' p=none/\H''=upd H' p (.tup [u,v])/\Dm K F H d1 u/\Dm K F H d2 v
theorem ItY.dm {K:Fg} {F F2:Addr->Prop} {H H' H'':Hp} {d:PyData} {x:V} (h:ItY K F H H' H'' d x) (T:∀ d v,Dm K F H d v->Dm K F2 H' d v):ay H' H''/\Dm K F2 H'' d x:=by
 rcases h with ⟨rfl,h⟩ | ⟨p,u,v,d1,d2,rfl,rfl,hp,rfl,h1,h2⟩
 ·exact ⟨fun _ _ e=>e,T _ _ h⟩
 ·have sm:ay H' (upd H' p (.tup [u,v])):=fun b o e=>by rw [ag (fun z=>by rw [z,hp] at e;cases e)];exact e
  refine ⟨sm,p,[u,v],rfl,SqT.of ai,Nat.le_of_ble_eq_true rfl,u,_,rfl,?_,v,_,rfl,?_,rfl⟩
  ·exact (T _ _ h1).pr (fun b o e _=>sm b o e) fun _ z=>z
  ·exact (T _ _ h2).pr (fun b o e _=>sm b o e) fun _ z=>z
def sC (K:Fg) (F I:Addr->Prop) (H:Hp) (J:It) (ds:List PyData):Prop:=ds.length<=sizeLine/\∀ H',(∀ b o,H b=some o->¬I b->H' b=some o)->∀ k,(k < ds.length->J.go k H'/\∀ x H'',J.yld k H' x H''->∃ d,ds[k]?=some d/\ItY K F H H' H'' d x)/\(ds.length<=k->J.stop k H')
theorem gG {K:Fg} {F I:Addr->Prop} {H:Hp} {J:It} {ds:List PyData} {vs:List V} (hd:DmL K F H ds vs) (hl:vs.length<=sizeLine) (h:∀ H',(∀ b o,H b=some o->¬I b->H' b=some o)->∀ k,(k < vs.length->J.go k H'/\∀ x H'',J.yld k H' x H''->H''=H'/\vs[k]?=some x)/\(vs.length<=k->J.stop k H')):sC K F I H J ds:=by
 have e:=hd.len;refine ⟨by omega,fun H' k j=>⟨fun hj=>?_,fun hj=>((h H' k j).2 (by omega))⟩⟩;obtain ⟨g,y⟩:=(h H' k j).1 (by omega);refine ⟨g,fun x H'' hx=>?_⟩;obtain ⟨e0,hx2⟩:=y x H'' hx;obtain ⟨d,h1,h2⟩:=hd.get' hx2;exact ⟨d,h1,.inl ⟨e0,h2⟩⟩
def SI (K:Fg) (ga:Nat->V) (gd:List PyData) (e:XI):Prop:=∀ (env:En) (ds:List PyData) (lock:Option Nat) (env':En),dI gd e env=some (ds,lock,env')->∀ (F0:Addr->Prop) (H₀:Hp) (I:Addr->Prop) (σ:St) (H:Hp) (R:It->Hp->Prop),Rel K F0 H₀ I env σ H ->
 (∀ J H',Rel K F0 H₀ I env' σ H'->KpE env env'->(∀ i,lock=some i->∃ d,cont env' i=some d)->sC K (FF F0 env' σ) (fun b=>IA env' σ b/\∀ i,lock=some i->mu env' i->σ[i]?≠some (some (.ref b))) H' J ds->R J H')->rI_ K ga e σ H R
section
variable {K:Fg} {F F' I I' F0:Addr->Prop} {H H' H₀:Hp} {env env':En} {σ σ':St} {ga:Nat->V} {gd:List PyData}
theorem C2 (i:Nat):SE K ga gd (.var i):=by
 intro env rv env' h F0 H₀ I σ H Q R q;simp only [dE] at h;split at h
 ·rename_i d e;cases h;obtain ⟨v,s,r⟩:=R.dat i d e;exact ⟨v,s,q v H R (KpE.refl _) r⟩
 ·rename_i d e;cases h;obtain ⟨a,s,_⟩:=R.own i d e;exact ⟨_,s,q _ H R (KpE.refl _) s⟩
 ·rename_i d e;cases h;obtain ⟨a,s,_⟩:=R.ino i d e;exact ⟨_,s,q _ H R (KpE.refl _) s⟩
 ·rename_i d e;cases h;obtain ⟨a,s,_⟩:=R.ro i d e;exact ⟨_,s,q _ H R (KpE.refl _) s⟩
 ·cases h
theorem Cg (i:Nat):SE K ga gd (.mov i):=by
 intro env rv env' h F0 H₀ I σ H Q R q;simp only [dE] at h;split at h
 ·rename_i d e;cases h;obtain ⟨a,s,R',r⟩:=R.mov e;exact ⟨_,s,q _ H R' (uG e (.inr (.inl ⟨d,rfl⟩))) r⟩
 ·cases h
theorem Dq (i:Nat):SE K ga gd (.tke i):=by
 intro env rv env' h F0 H₀ I σ H Q R q;simp only [dE] at h;split at h
 ·rename_i d e;cases h;obtain ⟨a,s,r⟩:=R.take e;exact ⟨_,s,q _ H r.rel (uG e (.inr (.inr rfl))) r⟩
 ·cases h
theorem BA (c:Cst):SE K ga gd (.cst c):=by
 intro env rv env' h F0 H₀ I σ H Q R q;simp only [dE] at h;cases h;exact q _ H R (KpE.refl _) (c.ok _ _ _)
theorem B8 (hg:∀ g d,gd[g]?=some d->∀ F H,Dm K F H d (ga g)) (g:Nat):SE K ga gd (.glb g):=by
 intro env rv env' h F0 H₀ I σ H Q R q;simp only [dE] at h;split at h
 ·rename_i d e;cases h;exact q _ H R (KpE.refl _) (hg g d e _ _)
 ·cases h
theorem BE {p:Prm} {as:XA} (ih:SA K ga gd as):SE K ga gd (.prm p as):=by
 intro env rv env' h F0 H₀ I σ H Q R q;simp only [dE] at h;split at h
 ·rename_i avs e1 h1;split at h
  ·rename_i ds h2;split at h
   ·rename_i pr h3;cases h;refine ih _ _ _ h1 F0 H₀ I σ H _ R fun vs H1 R1 k1 a1=>?_;refine p.ok K _ H1 ds vs pr Q h3 (a1.vw R1 h2) (fun b z=>R1.c6 z) fun v H2 s2 hp=>?_;exact q v H2 (R1.same s2) k1 (R1.j6 s2 hp)
   ·cases h
  ·cases h
 ·cases h
theorem B9 {m:Mtd} {o:XE} {as:XA} (io:SE K ga gd o) (ih:SA K ga gd as):SE K ga gd (.met m o as):=by
 intro env rv env' h F0 H₀ I σ H Q R q;simp only [dE] at h;split at h
 ·rename_i rv0 e1 h1;split at h
  ·rename_i d0 h2;split at h
   ·rename_i hty;split at h
    ·rename_i avs e2 h3;split at h
     ·rename_i d ds h4 h5;split at h
      ·rename_i pr h6;cases h;refine io _ _ _ h1 F0 H₀ I σ H _ R fun v H1 R1 k1 a1=>?_;refine ⟨m.vV K _ H1 d0 v hty (a1.av.vw R1 h2),?_⟩;refine ih _ _ _ h3 F0 _ _ σ H1 _ R1.rebase fun vs H2 S2 k2 a2=>?_;have R2:=R1.aZ S2;refine m.ok K _ H2 d v ds vs pr Q h6 ((a1.av.keep R1 S2 k2).vw R2 h4) (a2.vw R2 h5) (fun b z=>R2.c6 z) fun v H3 s3 hp=>?_;exact q v H3 (R2.same s3) (k1.trans k2) (R2.j6 s3 hp)
      ·cases h
     ·cases h
    ·cases h
   ·cases h
  ·cases h
 ·cases h
theorem Rel.Ey (R:Rel K F0 H₀ I env σ H) {i:Nat} {d d':PyData} {a:Addr} (hm:aA env i=some d) (s:σ[i]?=some (some (.ref a))) (hk:∀ b o,b≠a->H b=some o->H' b=some o) (ht:Top K (FF F0 env σ) H' d' a):Rel K F0 H₀ I (fg env i d') σ H':=by
 obtain ⟨m,a',s',_,_⟩:=R.cv hm;rw [s] at s';cases s';have hia:IA env σ a:=⟨i,m,s⟩;refine R.chg (cQ env i d') (fun b o e n=>hk b o (fun z=>n (z▸hia)) e) fun j c b hc hs=>?_;by_cases z:j=i
 ·subst z;rw [jj m] at hc;cases hc;rw [s] at hs;cases hs;exact ht
 ·have hc':aA env j=some c:=by
   unfold aA at hc ⊢
   rwa [i4 z] at hc
  obtain ⟨m2,b',s2,_,t2⟩:=R.cv hc';rw [hs] at s2;cases s2;have nb:b≠a:=fun y=>z (R.sep j i a m2 m (y▸hs) s);refine t2.pr (R.mH fun b' o e n=>hk b' o (fun z=>n (z▸hia)) e) (fun _ z=>z) fun o e=>hk b o nb e
theorem BB {m:Mtr} {i:Nat} {as:XA} (ih:SA K ga gd as):SE K ga gd (.mtr m i as):=by
 intro env rv env' h F0 H₀ I σ H Q R q;simp only [dE] at h;split at h
 ·rename_i d0 h0;split at h
  ·rename_i hty;split at h
   ·rename_i avs e1 h1;split at h
    ·rename_i d ds h2 h3;split at h
     ·rename_i d' pr h4;cases h;obtain ⟨_,a,s,f,t⟩:=R.cv h0;refine ⟨.ref a,s,m.vV K _ H d0 a hty t,?_⟩;refine ih _ _ _ h1 F0 H₀ I σ H _ R fun vs H1 R1 k1 a1=>?_;obtain ⟨m1,a',s',f1,t1⟩:=R1.cv h2;rw [s] at s';cases s';refine m.ok K _ H1 d a ds vs d' pr Q h4 f1 t1 (a1.mv R1 h3) fun v H2 hk ht hp=>?_;refine q v H2 (R1.Ey h2 s hk ht) (k1.trans (n8 _ _ _)) ?_;show Dm K (FF F0 (fg e1 i d') σ) H2 pr v;rw [(cQ e1 i d').ff (F0:=F0) (σ:=σ)];exact hp
     ·cases h
    ·cases h
   ·cases h
  ·cases h
 ·cases h
noncomputable def adr (σ:St) (i:Nat):Addr:=match σ[i]? with | some (some (.ref a))=>a | _=>0
theorem fj {i:Nat} {a:Addr} (h:σ[i]?=some (some (.ref a))):adr σ i=a:=by unfold adr;rw [h]
theorem ij {ms:List PM} {as:List AV} {ds:List PyData} {m:PM} {a:AV} (h:gX env (m :: ms) (a :: as)=some ds):∃ d r,ds=d :: r/\CS env m a=some d/\gX env ms as=some r:=by
 unfold gX at h;split at h
 ·rename_i d r e1 e2;cases h;exact ⟨d,r,rfl,e1,e2⟩
 ·cases h
theorem d3.bor {G I:Addr->Prop} {d:PyData} {a:Addr} (h:d3 K G I H d a):wH K G I H d (.ref a):=by cases d <;> first | exact ⟨a,rfl,h⟩ | exact absurd h id
theorem yt (R:Rel K F0 H₀ I env σ H) (all:List Nat) (hall:∀ i∈all,mu env i):∀ {ms:List PM} {as:List AV} {ds:List PyData} {vs:List V},gX env ms as=some ds->fC K F0 env σ H as vs->(bO ms as).Nodup->(∀ i∈nC ms as,i ∉ all)->(∀ i∈bO ms as,i∈all) ->
  bp K (FF F0 env σ) (·∈all.map (adr σ)) H ms ds vs ((bO ms as).map (adr σ)):=by
 have iAll:∀ b,b∈all.map (adr σ)->IA env σ b:=fun b hb=>by
  obtain ⟨i,hi,e⟩:=GO.mp hb;have m:=hall i hi;obtain ⟨d,m'⟩:=m;have:∃ a,σ[i]?=some (some (.ref a)):=by
   rcases m' with z | z
   ·obtain ⟨a,s,_⟩:=R.own i d z;exact ⟨a,s⟩
   ·obtain ⟨a,s,_⟩:=R.ino i d z;exact ⟨a,s⟩
  obtain ⟨a,s⟩:=this;rw [fj s] at e;subst e;exact ⟨i,hall i hi,s⟩
 intro ms;induction ms with
 | nil =>
  intro as ds vs h q _ _ _;cases as with
  | nil=>cases h;rw [show vs=[] from q];rfl
  | cons a as=>cases h
 | cons m ms ih =>
  intro as ds vs h q nd hb hi;cases as with
  | nil=>cases h
  | cons a as =>
   obtain ⟨d,r,rfl,h1,h2⟩:=ij h;obtain ⟨v,vr,rfl,q1,q2⟩:=q;cases m with
   | dat =>
    cases a with
    | bor i=>cases h1
    | dat d' =>
     cases h1;exact ⟨q1,ih h2 q2 (by simpa [bO] using nd) (by simpa [nC] using hb) (by simpa [bO] using hi)⟩
   | bor =>
    cases a with
    | dat d' =>
     by_cases ct:∃ ts,d'=.tuple ts
     ·obtain ⟨ts,rfl⟩:=ct;cases h1;exact ⟨q1,ih h2 q2 (by simpa [bO] using nd) (by simpa [nC] using hb) (by simpa [bO] using hi)⟩
     have l:d'=d/\((∃ ds,d=.list ds)\/∃ ds,d=.dict ds):=by
      cases d' <;> first | exact absurd ⟨_,rfl⟩ ct | (cases h1;exact ⟨rfl,.inl ⟨_,rfl⟩⟩) | (cases h1;exact ⟨rfl,.inr ⟨_,rfl⟩⟩) | cases h1
     obtain ⟨rfl,l⟩:=l;obtain ⟨b,e,t⟩:=Dm.ro (I:=(·∈all.map (adr σ))) q1 (fun b z=>R.ia (iAll b z)) l;exact ⟨by rcases l with ⟨_,rfl⟩ | ⟨_,rfl⟩ <;> exact ⟨b,e,t⟩,ih h2 q2 (by simpa [bO] using nd) (by simpa [nC] using hb) (by simpa [bO] using hi)⟩
    | bor i =>
     have h1:cont env i=some d:=h1;have hb':i ∉ all:=hb i (by simp [nC]);refine ⟨?_,ih h2 q2 (by simpa [bO] using nd) (fun j hj=>hb j (by simp [nC,hj])) (by simpa [bO] using hi)⟩;unfold cont at h1;have na:∀ a,mu env i->σ[i]?=some (some (.ref a))->a ∉ all.map (adr σ):=fun a m s z=>by
      obtain ⟨j,hj,e⟩:=GO.mp z;obtain ⟨k,mk,sk⟩:=iAll a z;obtain ⟨dj,mj⟩:=hall j hj;have:∃ c,σ[j]?=some (some (.ref c)):=by
       rcases mj with z | z
       ·obtain ⟨a,s,_⟩:=R.own j dj z;exact ⟨a,s⟩
       ·obtain ⟨a,s,_⟩:=R.ino j dj z;exact ⟨a,s⟩
      obtain ⟨c,sj⟩:=this;rw [fj sj] at e;subst e;have:=R.sep i j c m ⟨dj,mj⟩ s sj;subst this;exact hb' hj
     split at h1
     ·rename_i d' e;cases h1;obtain ⟨a,s,_,_,t⟩:=R.own i d e;rw [show σ[i]?=some (some v) from q1] at s;cases s;exact d3.bor (t.ro (na a ⟨d,.inl e⟩ q1))
     ·rename_i d' e;cases h1;obtain ⟨a,s,_,_,t⟩:=R.ino i d e;rw [show σ[i]?=some (some v) from q1] at s;cases s;exact d3.bor (t.ro (na a ⟨d,.inr e⟩ q1))
     ·rename_i d' e;cases h1;obtain ⟨a,s,t⟩:=R.ro i d e;rw [show σ[i]?=some (some v) from q1] at s;cases s;exact d3.bor (t.pr Pr.refl (fun _ z=>z) iAll fun _ _ z _=>z)
     ·cases h1
   | ino =>
    cases a with
    | dat d'=>cases h1
    | bor i =>
     have h1:aA env i=some d:=h1;obtain ⟨m,b,s,f,t⟩:=R.cv h1;rw [show σ[i]?=some (some v) from q1] at s;cases s;have nd':i ∉ bO ms as/\(bO ms as).Nodup:=by simpa [bO] using nd
     refine ⟨b,(bO ms as).map (adr σ),rfl,by simp [bO,fj q1],f,t,fun z=>?_,ih h2 q2 nd'.2 (by simpa [nC] using hb) (fun j hj=>hi j (by simp [bO,hj]))⟩;obtain ⟨j,hj,e⟩:=GO.mp z;obtain ⟨dj,mj⟩:=hall j (hi j (by simp [bO,hj]));have:∃ c,σ[j]?=some (some (.ref c)):=by
      rcases mj with z | z
      ·obtain ⟨a,s,_⟩:=R.own j dj z;exact ⟨a,s⟩
      ·obtain ⟨a,s,_⟩:=R.ino j dj z;exact ⟨a,s⟩
     obtain ⟨c,sj⟩:=this;rw [fj sj] at e;subst e;have:=R.sep i j c m ⟨dj,mj⟩ q1 sj;subst this;exact nd'.1 hj
theorem qd:∀ {ms:List PM} {as:List AV} {ds:List PyData},gX env ms as=some ds->∀ i∈bO ms as,mu env i
 | [],[],_,_,i,h=>by simp [bO] at h
 | [],_ :: _,_,h,_,_=>by cases h
 | _ :: _,[],_,h,_,_=>by cases h
 | m :: ms,a :: as,_,h,i,hi=>by
  obtain ⟨d,r,rfl,h1,h2⟩:=ij h;have ih:=qd h2 i;cases m with
  | dat=>exact ih (by simpa [bO] using hi)
  | bor=>exact ih (by simpa [bO] using hi)
  | ino =>
   cases a with
   | dat d'=>cases h1
   | bor j =>
    simp only [bO,Gv] at hi;rcases hi with rfl | hi
    ·rcases lR h1 with e | e
     ·exact ⟨d,.inl e⟩
     ·exact ⟨d,.inr e⟩
    ·exact ih hi
theorem jX:∀ (env:En) (is:List Nat) (ds:List PyData),SmK env (cb env is ds)
 | env,[],ds=>by unfold cb;exact SmK.refl _
 | env,i :: is,[]=>by unfold cb;exact SmK.refl _
 | env,i :: is,d :: ds=>by unfold cb;exact (cQ env i d).trans (jX _ is ds)
theorem gY:∀ (env:En) (is:List Nat) (ds:List PyData) (j:Nat),j ∉ is->(cb env is ds)[j]?=env[j]?
 | env,[],ds,j,_=>by unfold cb;rfl
 | env,i :: is,[],j,_=>by unfold cb;rfl
 | env,i :: is,d :: ds,j,h=>by
  unfold cb;have n:j≠i:=fun z=>h (by rw [z];exact Gm);rw [gY _ is ds j (fun z=>h (Gp _ z)),i4 n]
theorem je {G:Addr->Prop}:∀ {env:En} {is:List Nat} {ds:List PyData} {j:Nat} {c:PyData},is.Nodup->(∀ i∈is,mu env i)->gH K G H ds (is.map (adr σ))->j∈is->aA (cb env is ds) j=some c->Top K G H c (adr σ j)
 | env,[],ds,j,c,_,_,_,h,_=>by simp at h
 | env,i :: is,[],j,c,_,_,h,_,_=>by simp [gH] at h
 | env,i :: is,d :: ds,j,c,nd,hm,h,hj,hc=>by
  obtain ⟨n1,nd'⟩:=Hu.mp nd;have h':Top K G H d (adr σ i)/\gH K G H ds (is.map (adr σ)):=h;unfold cb at hc;rcases Gv.mp hj with rfl | hj
  ·have e:=gY (fg env j d) is ds j n1;have:aA (fg env j d) j=some c:=by unfold aA at hc ⊢;rwa [e] at hc
   rw [jj (hm j Gm)] at this;cases this;exact h'.1
  ·exact je (env:=fg env i d) nd' (fun k hk=>(cQ env i d).symm.kp.mu (hm k (Gp _ hk))) h'.2 hj hc
theorem fP:∀ {is:List Nat},xb is=true->is.Nodup
 | [],_=>List.nodup_nil
 | x :: xs,h=>by
  have h':xs.contains x=false/\xb xs=true:=by simpa [xb] using h
  exact Hu.mpr ⟨fun z=>by simp [z] at h',fP h'.2⟩
theorem vU {is bs:List Nat} {n:Nat} (h:ckA is bs n=true):is.Nodup/\(∀ i∈bs,i ∉ is)/\n=is.length:=by
 unfold ckA at h;simp only [GY,IZ,Hl] at h;exact ⟨fP h.1,fun i hi z=>by have:=h.2.1 i hi;simp [z] at this,h.2.2⟩
theorem s_call {f:Fn} {as:XA} (ih:SA K ga gd as):SE K ga gd (.call f as):=by
 intro env rv env' h F0 H₀ I σ H Q R q;simp only [dE] at h;split at h
 ·rename_i avs e1 h1;unfold sf at h;split at h
  ·cases h
  ·rename_i ds h2;split at h
   ·cases h
   ·rename_i pr outs h3;split at h
    ·rename_i hc;obtain ⟨nd,hb,hl⟩:=vU hc;cases h;refine ih _ _ _ h1 F0 H₀ I σ H _ R fun vs H1 R1 k1 a1=>?_;show fK f K (vs++[]) H1 Q NoE;rw [Hx];have hmu:=qd h2;refine ⟨FF F0 e1 σ,ds,(bO f.ms avs).map (adr σ),pr,outs,h3,yt R1 (bO f.ms avs) hmu h2 a1 nd hb (fun _ z=>z),fun b z=>R1.c6 z,fun v H2 hk hr=>?_⟩;have k:=jX e1 (bO f.ms avs) outs;have eF:=k.ff (F0:=F0) (σ:=σ);have eI:=k.ia (σ:=σ);have isIA:∀ b,b∈(bO f.ms avs).map (adr σ)->IA e1 σ b:=fun b hb=>by
      obtain ⟨i,hi,e⟩:=GO.mp hb;obtain ⟨d,m'⟩:=hmu i hi;have:∃ a,σ[i]?=some (some (.ref a)):=by
       rcases m' with z | z
       ·obtain ⟨a,s,_⟩:=R1.own i d z;exact ⟨a,s⟩
       ·obtain ⟨a,s,_⟩:=R1.ino i d z;exact ⟨a,s⟩
      obtain ⟨a,s⟩:=this;rw [fj s] at e;subst e;exact ⟨i,hmu i hi,s⟩
     have hk':∀ b o,H1 b=some o->¬IA e1 σ b->H2 b=some o:=fun b o e n=>hk b o e fun z=>n (isIA b z);have jo:∀ j d a,j ∉ bO f.ms avs->aA (cb e1 (bO f.ms avs) outs) j=some d->σ[j]?=some (some (.ref a))->aA e1 j=some d/\a ∉ (bO f.ms avs).map (adr σ):=fun j d a hj hm hs=>by
      have hm':aA e1 j=some d:=by unfold aA at hm ⊢;rwa [gY _ _ _ _ hj] at hm
      refine ⟨hm',fun z=>?_⟩;obtain ⟨i,hi,e⟩:=GO.mp z;obtain ⟨i',m2,s2⟩:=isIA a z;obtain ⟨di,mi⟩:=hmu i hi;have:∃ a,σ[i]?=some (some (.ref a)):=by
       rcases mi with z | z
       ·obtain ⟨a,s,_⟩:=R1.own i di z;exact ⟨a,s⟩
       ·obtain ⟨a,s,_⟩:=R1.ino i di z;exact ⟨a,s⟩
      obtain ⟨c,sc⟩:=this;rw [fj sc] at e;subst e;have:=R1.sep j i c (R1.cv hm').1 ⟨di,mi⟩ hs sc;subst this;exact hj hi
     cases pr with
     | dat d =>
      obtain ⟨hd,ht⟩:=hr;refine q v H2 (R1.chg k hk' fun j c a hm hs=>?_) (k1.trans k.kp) (show Dm K _ H2 d v by rw [eF];exact hd);by_cases hj:j∈bO f.ms avs
      ·have:=je nd hmu ht hj hm
       rwa [fj hs] at this
      ·obtain ⟨hm',ha⟩:=jo j c a hj hm hs;obtain ⟨_,a',s',_,t'⟩:=R1.cv hm';rw [hs] at s';cases s';exact t'.pr (R1.mH hk') (fun _ z=>z) fun o e=>hk a o e ha
     | frs d =>
      obtain ⟨c,ev,hn,td,ht⟩:=hr;obtain ⟨o,ho,_⟩:=td.wr;have sm:ay H1 (upd H1 c o):=ay.nw o hn;have R1c:=R1.fresh (c:=c) hn sm (by rw [ai];exact nofun);have cIA:¬IA e1 σ c:=fun z=>by obtain ⟨o',z,_⟩:=R1.iaT z;rw [hn] at z;cases z
      have hkc:∀ b o',upd H1 c o b=some o'->¬IA e1 σ b->H2 b=some o':=fun b o' e n=>by
       by_cases z:b=c
       ·subst z;rw [ai] at e;cases e;exact ho
       ·rw [ag z] at e;exact hk' b o' e n
      have pF:Pr (fun b=>FF F0 e1 σ b\/b=c) H1 H2:=fun b o' e n=>hk' b o' e fun y=>by
       rcases n with n | n
       ·exact n (.inl (R1.ia y))
       ·obtain ⟨o2,h2,w2⟩:=R1.iaT y;rw [e] at h2;cases h2;rw [n] at w2;cases w2
      have R2c:Rel K (fun b=>F0 b\/b=c) H₀ I (cb e1 (bO f.ms avs) outs) σ H2:=by
       refine R1c.chg k hkc fun j c' a hm hs=>?_;rw [d6];by_cases hj:j∈bO f.ms avs
       ·have:=je nd hmu ht hj hm
        rwa [fj hs] at this
       ·obtain ⟨hm',ha⟩:=jo j c' a hj hm hs;obtain ⟨_,a',s',_,t'⟩:=R1.cv hm';rw [hs] at s';cases s';exact (t'.fresh hn).pr pF (fun _ z=>z) fun o e=>hk a o e ha
      have nino:∀ (i:Nat) (d':PyData),(cb e1 (bO f.ms avs) outs)[i]?=some (.ino d')->σ[i]?≠some (some (.ref c)):=fun i d' e' z=>cIA ⟨i,k.kp.mu ⟨d',.inr e'⟩,z⟩;have rv:cZ K F0 H₀ I (cb e1 (bO f.ms avs) outs) σ H2 (.frs d) v:=by
       refine ⟨c,ev,R2c,by rw [eF];exact td,R1.oi (.inl hn),fun z=>?_,nino,fun i d' e'=>?_⟩
       ·rw [eF] at z;exact R1.c6 z hn
       ·have e0:e1[i]?=some (.ro d'):=by
         rcases k.2 i with y | ⟨_,_,_,y⟩ | ⟨_,_,_,y⟩
         ·rw [<- y];exact e'
         ·rw [e'] at y;cases y
         ·rw [e'] at y;cases y
        obtain ⟨b,s,t⟩:=R1.ro i d' e0;rw [eF,eI];exact ⟨b,s,((t.fresh hn).uE hn).pr pF (fun _ z=>z) (fun _ z=>z) fun b o' e n=>hk' b o' e fun z=>n (.inl z)⟩
      exact q v H2 rv.rel (k1.trans k.kp) rv
    ·cases h
 ·cases h
theorem B5 {as:XA} (ih:SA K ga gd as):SE K ga gd (.tup as):=by
 intro env rv env' h F0 H₀ I σ H Q R q;simp only [dE] at h;split at h
 ·rename_i avs e1 h1;split at h
  ·rename_i ds h2;split at h
   ·rename_i hl;cases h;refine ih _ _ _ h1 F0 H₀ I σ H _ R fun vs H1 R1 k1 a1=>?_;have dl:=a1.C7 h2;have hl':vs.length<=sizeLine:=by rw [dl.len];exact hl
    refine ⟨hl',fun p hp=>?_⟩;have s:=ay.nw (.tup vs) hp;exact q _ _ (R1.same s) k1 ⟨p,vs,rfl,.inl (.inl ai),hl',dl.pr (Pr.of_same s) fun _ z=>z⟩
   ·cases h
  ·cases h
 ·cases h
theorem BU {as:XA} (ih:SA K ga gd as):SE K ga gd (.lst as):=by
 intro env rv env' h F0 H₀ I σ H Q R q;simp only [dE] at h;split at h
 ·rename_i avs e1 h1;split at h
  ·rename_i ds h2;split at h
   ·rename_i hl;cases h;refine ih _ _ _ h1 F0 H₀ I σ H _ R fun vs H1 R1 k1 a1=>?_;have dl:=a1.C7 h2;have hl':vs.length<=sizeLine:=by rw [dl.len];exact hl
    refine ⟨hl',fun p hp=>?_⟩;have s:=ay.nw (.lst vs) hp;exact q _ _ (R1.same s) k1 (R1.j6 (pr:=.frs (.list ds)) s ⟨p,rfl,hp,vs,ai,hl',(dl.fresh hp).pr (Pr.of_same s) fun _ z=>z⟩)
   ·cases h
  ·cases h
 ·cases h
theorem Dz {as:XA} (ih:SF K ga gd as):SE K ga gd (.fst as):=by
 intro env rv env' h F0 H₀ I σ H Q R q;simp only [dE] at h;split at h
 ·rename_i x e1 h1;cases h;exact ih _ _ _ _ h1 F0 H₀ I σ H _ R (show PyData.strOk ⟨#[]⟩=true by simp [PyData.strOk]) fun H1 R1 k1 hl ho=>q _ H1 R1 k1 ⟨rfl,hl,ho⟩
 ·cases h
theorem Cj:SF K ga gd .nil:=by
 intro out env x env' h F0 H₀ I σ H Q R ok q;simp only [dF] at h;split at h
 ·rename_i hl;cases h;exact ⟨hl,q H R (KpE.refl _) hl ok⟩
 ·cases h
theorem Aa {e:XE} {r:XA} (ie:SE K ga gd e) (ir:SF K ga gd r):SF K ga gd (.cons e r):=by
 intro out env x env' h F0 H₀ I σ H Q R ok q;simp only [dF] at h;split at h
 ·rename_i y e1 h1;split at h
  ·rename_i hl;refine ie _ _ _ h1 F0 H₀ I σ H _ R fun v H1 R1 k1 a1=>?_;obtain ⟨rfl,_,oky⟩:=(show v=.str y/\y.length<=sizeLine/\PyData.strOk y=true from a1);refine ⟨y,rfl,hl,?_⟩;exact ir _ _ _ _ h F0 H₀ I σ H1 _ R1 (bh ok oky) fun H2 R2 k2 hx=>q H2 R2 (k1.trans k2) hx
  ·cases h
 ·cases h
theorem Eg:SA K ga gd .nil:=by
 intro env rv env' h F0 H₀ I σ H Q R q;simp only [dA] at h;cases h;exact q [] H R (KpE.refl _) rfl
theorem zD {e:XE} {r:XA} (ie:SE K ga gd e) (ir:SA K ga gd r):SA K ga gd (.cons e r):=by
 intro env rv env' h F0 H₀ I σ H Q R q;simp only [dA] at h;split at h
 ·rename_i rv0 e1 h1;split at h
  ·rename_i avs e2 h2;cases h;refine ie _ _ _ h1 F0 H₀ I σ H _ R fun v H1 R1 k1 a1=>?_;refine ir _ _ _ h2 F0 _ _ σ H1 _ R1.rebase fun vs H2 S2 k2 a2=>?_;exact q (v :: vs) H2 (R1.aZ S2) (k1.trans k2) ⟨v,vs,rfl,a1.av.keep R1 S2 k2,a2⟩
  ·cases h
 ·cases h
end
open PySem
section
variable {K:Fg} {F F' I I' F0:Addr->Prop} {H H' H₀:Hp} {env env':En} {σ σ':St} {ga:Nat->V} {gd:List PyData}
theorem DZ {c:XT} {a b:XE} (ic:ST K ga gd c) (ia:SE K ga gd a) (ib:SE K ga gd b):SE K ga gd (.ifx c a b):=by
 intro env rv env' h F0 H₀ I σ H Q R q;simp only [dE] at h;split at h
 ·rename_i e1 h1;refine ic _ _ _ h1 F0 H₀ I σ H _ R fun H1 R1 k1=>?_;rw [Gs rfl];exact ia _ _ _ h F0 H₀ I σ H1 _ R1 fun v H2 R2 k2 r=>q v H2 R2 (k1.trans k2) r
 ·rename_i e1 h1;refine ic _ _ _ h1 F0 H₀ I σ H _ R fun H1 R1 k1=>?_;rw [Gy (by decide)];exact ib _ _ _ h F0 H₀ I σ H1 _ R1 fun v H2 R2 k2 r=>q v H2 R2 (k1.trans k2) r
 ·cases h
theorem yx {a b:XE} (ia:SE K ga gd a) (ib:SE K ga gd b):SE K ga gd (.wt a b):=by
 intro env rv env' h F0 H₀ I σ H Q R q;simp only [dE] at h;split at h
 ·rename_i e1 h1;refine ia _ _ _ h1 F0 H₀ I σ H _ R fun v H1 R1 k1 r1=>⟨true,r1,?_⟩;rw [Gs rfl];exact ib _ _ _ h F0 H₀ I σ H1 _ R1 fun v H2 R2 k2 r=>q v H2 R2 (k1.trans k2) r
 ·rename_i e1 h1;cases h;refine ia _ _ _ h1 F0 H₀ I σ H _ R fun v H1 R1 k1 r1=>⟨false,r1,?_⟩;rw [Gy (by decide)];exact q _ H1 R1 k1 rfl
 ·cases h
theorem D1 {a b:XE} (ia:SE K ga gd a) (ib:SE K ga gd b):SE K ga gd (.orv a b):=by
 intro env rv env' h F0 H₀ I σ H Q R q;simp only [dE] at h;split at h
 ·rename_i e1 h1;cases h;refine ia _ _ _ h1 F0 H₀ I σ H _ R fun v H1 R1 k1 r1=>⟨true,r1,?_⟩;rw [Gs rfl];exact q _ H1 R1 k1 rfl
 ·rename_i e1 h1;refine ia _ _ _ h1 F0 H₀ I σ H _ R fun v H1 R1 k1 r1=>⟨false,r1,?_⟩;rw [Gy (by decide)];exact ib _ _ _ h F0 H₀ I σ H1 _ R1 fun v H2 R2 k2 r=>q v H2 R2 (k1.trans k2) r
 ·cases h
theorem AW {a:XE} (ia:SE K ga gd a):SE K ga gd (.xH a):=by
 intro env rv env' h F0 H₀ I σ H Q R q;simp only [dE] at h;split at h
 ·rename_i x e1 h1;cases h;exact ia _ _ _ h1 F0 H₀ I σ H _ R fun v H1 R1 k1 r1=>⟨x,r1,q _ H1 R1 k1 rfl⟩
 ·cases h
theorem C3 {x y:PyData} {u v:V} (hx:Vw K F H x u) (hy:Vw K F H y v):VwL K F H [x,y] [u,v]:=⟨u,[v],rfl,hx,v,[],rfl,hy,rfl⟩
theorem DM {p p':Prm} {a b c:XE} (ia:SE K ga gd a) (ib:SE K ga gd b) (ic:SE K ga gd c):SE K ga gd (.chn p p' a b c):=by
 intro env rv env' h F0 H₀ I σ H Q R q;simp only [dE] at h;split at h
 ·rename_i ra e1 h1;split at h
  ·rename_i rb e2 h2;split at h
   ·rename_i x y hx hy;refine ia _ _ _ h1 F0 H₀ I σ H _ R fun v H1 R1 k1 r1=>?_;refine ib _ _ _ h2 F0 _ _ σ H1 _ R1.rebase fun u H2 S2 k2 r2=>?_;have R2:=R1.aZ S2;have a1:=r1.av.keep R1 S2 k2;have a2:=r2.av;rw [hx] at a1;rw [hy] at a2;have dx:Dm K (FF F0 e2 σ) H2 x v:=a1;have dy:Dm K (FF F0 e2 σ) H2 y u:=a2;split at h
    ·rename_i hp;split at h
     ·rename_i rc e3 h3;split at h
      ·rename_i z hz;split at h
       ·rename_i pr hq;cases h;refine p.ok K _ H2 _ _ _ _ hp (C3 dx.vw dy.vw) (fun b z=>R2.c6 z) fun w H3 s3 hw=>⟨true,hw,?_⟩;rw [Gs rfl];have R3:=R2.same s3;have dy3:Dm K (FF F0 e2 σ) H3 y u:=dy.pr (Pr.of_same s3) fun _ z=>z;refine ic _ _ _ h3 F0 _ _ σ H3 _ R3.rebase fun t H4 S4 k4 r4=>?_;have R4:=R3.aZ S4;have a4:=r4.av;rw [hz] at a4;have dz:Dm K (FF F0 env' σ) H4 z t:=a4;refine p'.ok K _ H4 _ _ _ _ hq (C3 (R3.lX S4 k4 dy3).vw dz.vw) (fun b z=>R4.c6 z) fun w H5 s5 hw=>?_;exact q w H5 (R4.same s5) ((k1.trans k2).trans k4) (R4.j6 s5 hw)
       ·cases h
      ·cases h
     ·cases h
    ·rename_i hp;cases h;refine p.ok K _ H2 _ _ _ _ hp (C3 dx.vw dy.vw) (fun b z=>R2.c6 z) fun w H3 s3 hw=>⟨false,hw,?_⟩;rw [Gy (by decide)];exact q _ H3 (R2.same s3) (k1.trans k2) rfl
    ·cases h
   ·cases h
  ·cases h
 ·cases h
theorem D7 {p:Int->Int->Prm} {a b c:XE} (ia:SE K ga gd a) (ib:SE K ga gd b) (ic:SE K ga gd c):SE K ga gd (.sl2 p a b c):=by
 intro env rv env' h F0 H₀ I σ H Q R q;simp only [dE] at h;split at h
 ·rename_i ra e1 h1;split at h
  ·rename_i i e2 h2;split at h
   ·rename_i j e3 h3;split at h
    ·rename_i d hv;split at h
     ·rename_i pr hp;cases h;refine ia _ _ _ h1 F0 H₀ I σ H _ R fun v H1 R1 k1 r1=>?_;refine ib _ _ _ h2 F0 _ _ σ H1 _ R1.rebase fun u H2 S2 k2 r2=>⟨i,r2,?_⟩;have R2:=R1.aZ S2;have a1:=r1.av.keep R1 S2 k2;refine ic _ _ _ h3 F0 _ _ σ H2 _ R2.rebase fun w H3 S3 k3 r3=>⟨j,r3,?_⟩;have R3:=R2.aZ S3;have a2:=a1.keep R2 S3 k3;refine (p i j).ok K _ H3 [d] [v] pr Q hp ⟨v,[],rfl,a2.vw R3 hv,rfl⟩ (fun b z=>R3.c6 z) fun w H4 s4 hw=>?_;exact q w H4 (R3.same s4) ((k1.trans k2).trans k3) (R3.j6 s4 hw)
     ·cases h
    ·cases h
   ·cases h
  ·cases h
 ·cases h
theorem BW {e:XE} (ie:SE K ga gd e):ST K ga gd (.tst e):=by
 intro env b env' h F0 H₀ I σ H Q R q;simp only [dT] at h;split at h
 ·rename_i x e1 h1;cases h;exact ie _ _ _ h1 F0 H₀ I σ H _ R fun v H1 R1 k1 r1=>⟨_,r1,q H1 R1 k1⟩
 ·cases h
theorem iu {ds:List PyData} {vs:List V} (h:DmL K F H ds vs):vs.isEmpty=ds.isEmpty:=by
 cases ds with
 | nil=>rw [show vs=[] from h];rfl
 | cons d ds=>obtain ⟨v,r,rfl,_⟩:=h;rfl
theorem Vw.tru {d:PyData} {v:V} (h:Vw K F H d v) (nd:Ej d≠true):Cf K v H (Eh d):=by
 cases d with
 | none=>rw [show v=.non from h];rfl
 | bool b=>rw [show v=.bl b from h];rfl
 | int i=>rw [show v=.int i from h];rfl
 | str x=>obtain ⟨rfl,hl,_⟩:=(show v=.str x/\x.length<=sizeLine/\PyData.strOk x=true from h);exact ⟨hl,rfl⟩
 | list ds=>obtain ⟨a,rfl,xs,e,_,r⟩:=h;exact .inl ⟨xs,e,by rw [iu r];rfl⟩
 | tuple ds=>obtain ⟨a,xs,rfl,e,_,r⟩:=h;exact .inr (.inl ⟨xs,e,by rw [iu r];rfl⟩)
 | dict ds=>exact absurd rfl nd
theorem DP {e:XE} (ie:SE K ga gd e):ST K ga gd (.tru e):=by
 intro env b env' h F0 H₀ I σ H Q R q;simp only [dT] at h;split at h
 ·rename_i x e1 h1;split at h
  ·rename_i d h2;split at h
   ·cases h
   ·rename_i nd;cases h;exact ie _ _ _ h1 F0 H₀ I σ H _ R fun v H1 R1 k1 r1=>⟨_,(r1.av.vw R1 h2).tru nd,q H1 R1 k1⟩
  ·cases h
 ·cases h
theorem D3 {a b:XT} (ia:ST K ga gd a) (ib:ST K ga gd b):ST K ga gd (.and a b):=by
 intro env x env' h F0 H₀ I σ H Q R q;simp only [dT] at h;split at h
 ·rename_i e1 h1;refine ia _ _ _ h1 F0 H₀ I σ H _ R fun H1 R1 k1=>?_;rw [Gs rfl];exact ib _ _ _ h F0 H₀ I σ H1 _ R1 fun H2 R2 k2=>q H2 R2 (k1.trans k2)
 ·rename_i e1 h1;cases h;refine ia _ _ _ h1 F0 H₀ I σ H _ R fun H1 R1 k1=>?_;rw [Gy (by decide)];exact q H1 R1 k1
 ·cases h
theorem F3 {a b:XT} (ia:ST K ga gd a) (ib:ST K ga gd b):ST K ga gd (.or a b):=by
 intro env x env' h F0 H₀ I σ H Q R q;simp only [dT] at h;split at h
 ·rename_i e1 h1;cases h;refine ia _ _ _ h1 F0 H₀ I σ H _ R fun H1 R1 k1=>?_;rw [Gs rfl];exact q H1 R1 k1
 ·rename_i e1 h1;refine ia _ _ _ h1 F0 H₀ I σ H _ R fun H1 R1 k1=>?_;rw [Gy (by decide)];exact ib _ _ _ h F0 H₀ I σ H1 _ R1 fun H2 R2 k2=>q H2 R2 (k1.trans k2)
 ·cases h
theorem Dy {a:XT} (ia:ST K ga gd a):ST K ga gd (.not a):=by
 intro env x env' h F0 H₀ I σ H Q R q;simp only [dT] at h;split at h
 ·rename_i b e1 h1;cases h;exact ia _ _ _ h1 F0 H₀ I σ H _ R fun H1 R1 k1=>q H1 R1 k1
 ·cases h
theorem CO:ST K ga gd .yes:=by
 intro env x env' h F0 H₀ I σ H Q R q;simp only [dT] at h;cases h;exact q H R (KpE.refl _)
theorem uK {a:Addr} {vs:List V} {ds:List PyData} (hd:DmL K F H ds vs) (hl:vs.length<=sizeLine) (h:∀ H',(∀ b o,H b=some o->¬I b->H' b=some o)->SqL K H' a vs):sC K F I H (Itl K a) ds :=
 gG hd hl fun H' k j=>⟨fun hj=>⟨⟨vs,vs[j],h H' k,Gd hj⟩,fun x H'' y=>⟨y.1,y.2 vs (h H' k)⟩⟩,fun hj=>⟨vs,h H' k,hj⟩⟩
theorem AU {a:Addr} {vs:List V} {ds:List PyData} (hd:DmL K F H ds vs) (hl:vs.length<=sizeLine) (h:∀ H',(∀ b o,H b=some o->¬I b->H' b=some o)->SqT K H' a vs):sC K F I H (Itt K a) ds :=
 gG hd hl fun H' k j=>⟨fun hj=>⟨⟨vs,vs[j],h H' k,Gd hj⟩,fun x H'' y=>⟨y.1,y.2 vs (h H' k)⟩⟩,fun hj=>⟨vs,h H' k,hj⟩⟩
theorem wX {e:XE} (ie:SE K ga gd e):SI K ga gd (.lst e):=by
 intro env ds lock env' h F0 H₀ I σ H Q R q;simp only [dI] at h;split at h
 ·rename_i rv e1 h1;split at h
  ·rename_i ds' hv;cases h;refine ie _ _ _ h1 F0 H₀ I σ H _ R fun v H1 R1 k1 r1=>?_;have a1:=r1.av;rw [hv] at a1;obtain ⟨a,xs,rfl,l,z,r⟩:=(show Dm K (FF F0 env' σ) H1 (.list ds) v from a1);refine ⟨a,rfl,⟨xs,l.elim (fun q=>.inl q.2) .inr⟩,q _ H1 R1 k1 (fun i z=>by cases z) (uK r z fun H' k=>?_)⟩;rcases l with ⟨n,l | ⟨o,l⟩⟩ | l
   ·exact .inl (.inl (k _ _ l fun z=>n (R1.ia z.1)))
   ·exact .inl (.inr ⟨o,k _ _ l fun z=>n (R1.ia z.1)⟩)
   ·exact .inr l
  ·cases h
  ·rename_i i hv;split at h
   ·rename_i ds' hc;cases h;refine ie _ _ _ h1 F0 H₀ I σ H _ R fun v H1 R1 k1 r1=>?_;have a1:=r1.av;rw [hv] at a1;have s:σ[i]?=some (some v):=a1;unfold cont at hc;have fin:∀ a xs,v=.ref a->DmL K (FF F0 env' σ) H1 ds xs->xs.length<=sizeLine->(∀ H',(∀ b o,H1 b=some o->¬(IA env' σ b/\∀ j,some i=some j->mu env' j->σ[j]?≠some (some (.ref b)))->H' b=some o)->SqL K H' a xs)->(∃ d,cont env' i=some d) ->
      ∃ a,v=.ref a/\(∃ xs,SqL K H1 a xs)/\Q (Itl K a) H1:=fun a xs ev r z k hcd =>
     ⟨a,ev,⟨xs,k H1 fun _ _ e _=>e⟩,q _ H1 R1 k1 (fun j hj=>by cases hj;exact hcd) (uK r z k)⟩
    split at hc
    ·rename_i d e;cases hc;obtain ⟨a,s',_,_,xs,t,z,r⟩:=R1.own i _ e;rw [s] at s';cases s';exact fin a xs rfl r z (fun H' k=>.inl (.inl (k _ _ t fun y=>y.2 i rfl ⟨_,.inl e⟩ s))) ⟨_,by unfold cont;rw [e]⟩
    ·rename_i d e;cases hc;obtain ⟨a,s',_,_,xs,t,z,r⟩:=R1.ino i _ e;rw [s] at s';cases s';exact fin a xs rfl r z (fun H' k=>.inl (.inl (k _ _ t fun y=>y.2 i rfl ⟨_,.inr e⟩ s))) ⟨_,by unfold cont;rw [e]⟩
    ·rename_i d e;cases hc;obtain ⟨a,s',xs,l,z,r⟩:=R1.ro i _ e;rw [s] at s';cases s';refine fin a xs rfl r z (fun H' k=>?_) ⟨_,by unfold cont;rw [e]⟩;rcases l with ⟨n,l | ⟨o,l⟩⟩ | l
     ·exact .inl (.inl (k _ _ l fun z=>n z.1))
     ·exact .inl (.inr ⟨o,k _ _ l fun z=>n z.1⟩)
     ·exact .inr l
    ·cases hc
   ·cases h
 ·cases h
theorem p6:∀ {kvs:List (PyData×PyData)} {xs:List (PyData×V×V)},DmP K F H kvs xs->DmL K F H (kvs.map (·.1)) (xs.map (·.2.1))
 | [],xs,h=>by rw [show xs=[] from h];rfl
 | (k,d) :: kvs,xs,h=>by
  obtain ⟨j,v,r,rfl,_,h0,_,h2⟩:=h;exact ⟨j,_,rfl,h0,p6 h2⟩
theorem uh {a:Addr} {ep:Nat} {xs:List (PyData×V×V)} {kvs:List (PyData×PyData)} (hd:DmP K F H kvs xs) (hl:xs.length<=sizeLine) (h:∀ H':Hp,(∀ b o,H b=some o->¬I b->H' b=some o)->H' a=some (.dD ep xs)):sC K F I H (Itd a ep xs) (kvs.map (·.1)) :=
 gG (vs:=xs.map (·.2.1)) (p6 hd) (by rw [Gg];exact hl) fun H' k j=>⟨fun hj=>⟨⟨h H' k,by rw [Gg] at hj;exact hj⟩,fun x H'' y=>⟨y.1,by rw [GB];exact y.2⟩⟩,fun hj=>⟨h H' k,by rw [Gg] at hj;exact hj⟩⟩
theorem BI {e:XE} (ie:SE K ga gd e):SI K ga gd (.dct e):=by
 intro env ds lock env' h F0 H₀ I σ H Q R q;simp only [dI] at h;split at h
 ·rename_i rv e1 h1;split at h
  ·rename_i kvs hv;cases h;refine ie _ _ _ h1 F0 H₀ I σ H _ R fun v H1 R1 k1 r1=>?_;have a1:=r1.av;rw [hv] at a1;obtain ⟨a,ep,xs,rfl,n,l,z,r⟩:=(show Dm K (FF F0 env' σ) H1 (.dict kvs) v from a1);exact ⟨a,ep,xs,rfl,l,q _ H1 R1 k1 (fun i z=>by cases z) (uh r z fun H' k=>k _ _ l fun z=>n (R1.ia z.1))⟩
  ·cases h
  ·rename_i i hv;split at h
   ·rename_i kvs hc;cases h;refine ie _ _ _ h1 F0 H₀ I σ H _ R fun v H1 R1 k1 r1=>?_;have a1:=r1.av;rw [hv] at a1;have s:σ[i]?=some (some v):=a1;unfold cont at hc;have fin:∀ a ep xs,v=.ref a->DmP K (FF F0 env' σ) H1 kvs xs->xs.length<=sizeLine->(∀ H':Hp,(∀ b o,H1 b=some o->¬(IA env' σ b/\∀ j,some i=some j->mu env' j->σ[j]?≠some (some (.ref b)))->H' b=some o)->H' a=some (.dD ep xs))->(∃ d,cont env' i=some d) ->
      ∃ a ep xs,v=.ref a/\H1 a=some (.dD ep xs)/\Q (Itd a ep xs) H1:=fun a ep xs ev r z k hcd =>
     ⟨a,ep,xs,ev,k H1 fun _ _ e _=>e,q _ H1 R1 k1 (fun j hj=>by cases hj;exact hcd) (uh r z k)⟩
    split at hc
    ·rename_i d e;cases hc;obtain ⟨a,s',_,_,ep,xs,t,z,r⟩:=R1.own i _ e;rw [s] at s';cases s';exact fin a ep xs rfl r z (fun H' k=>k _ _ t fun y=>y.2 i rfl ⟨_,.inl e⟩ s) ⟨_,by unfold cont;rw [e]⟩
    ·rename_i d e;cases hc;obtain ⟨a,s',_,_,ep,xs,t,z,r⟩:=R1.ino i _ e;rw [s] at s';cases s';exact fin a ep xs rfl r z (fun H' k=>k _ _ t fun y=>y.2 i rfl ⟨_,.inr e⟩ s) ⟨_,by unfold cont;rw [e]⟩
    ·rename_i d e;cases hc;obtain ⟨a,s',ep,xs,n,l,z,r⟩:=R1.ro i _ e;rw [s] at s';cases s';exact fin a ep xs rfl r z (fun H' k=>k _ _ l fun z=>n z.1) ⟨_,by unfold cont;rw [e]⟩
    ·cases hc
   ·cases h
 ·cases h
theorem xX {e:XE} (ie:SE K ga gd e):SI K ga gd (.tup e):=by
 intro env ds lock env' h F0 H₀ I σ H Q R q;simp only [dI] at h;split at h
 ·rename_i rv e1 h1;split at h
  ·rename_i ds' hv;cases h;refine ie _ _ _ h1 F0 H₀ I σ H _ R fun v H1 R1 k1 r1=>?_;have a1:=r1.av;rw [hv] at a1;obtain ⟨a,xs,rfl,l,z,r⟩:=(show Dm K (FF F0 env' σ) H1 (.tuple ds) v from a1);refine ⟨a,rfl,⟨xs,l⟩,q _ H1 R1 k1 (fun i z=>by cases z) (AU r z fun H' k=>?_)⟩;exact l.pr (R1.mH fun b o e n=>k b o e fun z=>n z.1)
  ·cases h
 ·cases h
theorem FV {e:XE} (ie:SE K ga gd e):SI K ga gd (.sq e):=by
 intro env ds lock env' h F0 H₀ I σ H Q R q;simp only [dI] at h;split at h
 ·rename_i rv e1 h1;split at h
  ·rename_i ds' hv;exact .inl (wX ie env ds lock env' (by simp only [dI,h1,hv];exact h) F0 H₀ I σ H Q R q)
  ·rename_i ds' hv;exact .inr (xX ie env ds lock env' (by simp only [dI,h1,hv];exact h) F0 H₀ I σ H Q R q)
  ·cases h
  ·rename_i i hv;exact .inl (wX ie env ds lock env' (by simp only [dI,h1,hv];exact h) F0 H₀ I σ H Q R q)
 ·cases h
theorem vm:∀ {cs:List Nat},(∀ c∈cs,c < 0x110000)->DmL K F H (cs.map fun c=>.str ⟨#[c]⟩) (cs.map fun c=>.str ⟨#[c]⟩)
 | [],_=>rfl
 | c :: cs,h=>⟨_,_,rfl,⟨rfl,by show 1<=sizeLine;decide,by have:=h c Gm;simp [PyData.strOk,this]⟩,vm fun x hx=>h x (Gp _ hx)⟩
theorem dY {x:Str} (h:PyData.strOk x=true):∀ c∈x.cps.toList,c < 0x110000:=fun c hc=>by
 unfold PyData.strOk at h;have:=Jl.mp h c (by simpa using hc);simpa using this
theorem Ct {e:XE} (ie:SE K ga gd e):SI K ga gd (.str e):=by
 intro env ds lock env' h F0 H₀ I σ H Q R q;simp only [dI] at h;split at h
 ·rename_i rv e1 h1;split at h
  ·rename_i x hv;cases h;refine ie _ _ _ h1 F0 H₀ I σ H _ R fun v H1 R1 k1 r1=>?_;have a1:=r1.av;rw [hv] at a1;obtain ⟨rfl,hl,ok⟩:=(show v=.str x/\x.length<=sizeLine/\PyData.strOk x=true from a1);have ez:x.cps.toList.length=x.length:=by simp [Str.length]
   refine ⟨x,rfl,q _ H1 R1 k1 (fun i z=>by cases z) (gG (vm (dY ok)) (by rw [Gg,ez];exact hl) fun H' k j=>⟨fun hj=>?_,fun hj=>?_⟩)⟩
   ·rw [Gg,ez] at hj;refine ⟨hj,fun y H'' hy=>?_⟩;obtain ⟨e,c,hc,rfl⟩:=hy;refine ⟨e,?_⟩;rw [GB];have:x.cps.toList[j]?=some c:=by rw [<- hc];simp
    rw [this];rfl
   ·rw [Gg,ez] at hj;exact hj
  ·cases h
 ·cases h
theorem uD {f:Nat->Int}:∀ {cs:List Nat},DmL K F H (cs.map fun c=>.int (f c)) (cs.map fun c=>.int (f c))
 | []=>rfl
 | c :: cs=>⟨_,_,rfl,rfl,uD⟩
theorem u6 {lo:Int} {n:Nat} (hn:n<=sizeLine):sC K F I H (Itr lo n) ((List.range n).map fun (k:Nat)=>.int (lo+(k:Int))):=by
 refine gG (vs:=(List.range n).map fun (k:Nat)=>.int (lo+(k:Int))) (uD (f:=fun k=>lo+(k:Int))) (by rw [Gg,Hf];exact hn) fun H' k j=>⟨fun hj=>?_,fun hj=>?_⟩
 ·rw [Gg,Hf] at hj;refine ⟨hj,fun y H'' hy=>⟨hy.1,?_⟩⟩;rw [GB,List.getElem?_range hj,hy.2];rfl
 ·rw [Gg,Hf] at hj;exact hj
theorem yd {as:XA} (ia:SA K ga gd as):SI K ga gd (.rng1 as):=by
 intro env ds lock env' h F0 H₀ I σ H Q R q;simp only [dI] at h;split at h
 ·rename_i avs e1 h1;split at h
  ·rename_i j;split at h
   ·rename_i hj;cases h;refine ia _ _ _ h1 F0 H₀ I σ H _ R fun vs H1 R1 k1 a1=>?_;obtain ⟨v,r,rfl,hv,rfl⟩:=a1;have hv:v=.int j:=hv;subst hv;refine ⟨j,rfl,hj.1,by have:=hj.2;omega,q _ H1 R1 k1 (fun i z=>by cases z) (u6 ?_)⟩;have:=hj.2;show j.toNat<=2 ^ 24;omega
   ·cases h
  ·cases h
 ·cases h
theorem Ai {a b:Addr} {xs ys:List V} {ds es:List PyData} (hd:DmL K F H ds xs) (he:DmL K F H es ys) (hl:xs.length<=sizeLine) (h1:∀ H',(∀ b o,H b=some o->¬I b->H' b=some o)->SqL K H' a xs) (h2:∀ H',(∀ b o,H b=some o->¬I b->H' b=some o)->SqL K H' b ys):sC K F I H (Itz K a b xs ys) ((ds.zip es).map fun p=>.tuple [p.1,p.2]):=by
 have e1:=hd.len;have e2:=he.len;have el:((ds.zip es).map fun p=>PyData.tuple [p.1,p.2]).length=min xs.length ys.length:=by rw [Gg,List.length_zip,e1,e2]
 refine ⟨by rw [el];omega,fun H' k j=>⟨fun hj=>?_,fun hj=>?_⟩⟩
 ·rw [el] at hj;refine ⟨⟨h1 H' k,h2 H' k,by omega,by omega⟩,?_⟩;rintro x H'' ⟨p,u,v,hp,rfl,hu,hv,rfl⟩;obtain ⟨d,d1,d2⟩:=hd.get' hu;obtain ⟨e,e3,e4⟩:=he.get' hv;refine ⟨.tuple [d,e],?_,.inr ⟨p,u,v,d,e,rfl,rfl,hp,rfl,d2,e4⟩⟩;rw [GB,show (ds.zip es)[j]?=some (d,e) from List.getElem?_zip_eq_some.mpr ⟨d1,e3⟩];rfl
 ·rw [el] at hj;exact ⟨h1 H' k,h2 H' k,by omega⟩
theorem C1 {as:XA} (ia:SA K ga gd as):SI K ga gd (.zip as):=by
 intro env ds lock env' h F0 H₀ I σ H Q R q;simp only [dI] at h;split at h
 ·rename_i avs e1 h1;split at h
  ·rename_i x y;split at h
   ·rename_i xs ys hx hy;cases h;refine ia _ _ _ h1 F0 H₀ I σ H _ R fun vs H1 R1 k1 a1=>?_;obtain ⟨v,r,rfl,hv,w,r2,rfl,hw,rfl⟩:=a1;have one:∀ {x:AV} {xs:List PyData} {v:V},roL env' x=some xs->uY K F0 env' σ H1 x v->∃ a us,v=.ref a/\us.length<=sizeLine/\DmL K (FF F0 env' σ) H1 xs us/\∀ H',(∀ b o,H1 b=some o->¬(IA env' σ b/\∀ i,none=some i->mu env' i->σ[i]?≠some (some (.ref b)))->H' b=some o)->SqL K H' a us:=by
     intro x xs v hx hv;unfold roL at hx;split at hx
     ·cases hx;obtain ⟨a,us,rfl,l,z,r⟩:=(show Dm K (FF F0 env' σ) H1 (.list xs) v from hv);refine ⟨a,us,rfl,z,r,fun H' k=>?_⟩;rcases l with ⟨n,l | ⟨o,l⟩⟩ | l
      ·exact .inl (.inl (k _ _ l fun z=>n (R1.ia z.1)))
      ·exact .inl (.inr ⟨o,k _ _ l fun z=>n (R1.ia z.1)⟩)
      ·exact .inr l
     ·rename_i i;split at hx
      ·rename_i e;cases hx;have s:σ[i]?=some (some v):=hv;obtain ⟨a,s',us,l,z,r⟩:=R1.ro i _ e;rw [s] at s';cases s';refine ⟨a,us,rfl,z,r,fun H' k=>?_⟩;rcases l with ⟨n,l | ⟨o,l⟩⟩ | l
       ·exact .inl (.inl (k _ _ l fun z=>n z.1))
       ·exact .inl (.inr ⟨o,k _ _ l fun z=>n z.1⟩)
       ·exact .inr l
      ·cases hx
     ·cases hx
    obtain ⟨a,us,rfl,za,ra,sa⟩:=one hx hv;obtain ⟨b,ws,rfl,zb,rb,sb⟩:=one hy hw;exact ⟨a,b,us,ws,rfl,sa H1 fun _ _ e _=>e,sb H1 fun _ _ e _=>e,q _ H1 R1 k1 (fun i z=>by cases z) (Ai ra rb za sa sb)⟩
   ·cases h
  ·cases h
 ·cases h
theorem zw {as:XA} (ia:SA K ga gd as):SI K ga gd (.rng2 as):=by
 intro env ds lock env' h F0 H₀ I σ H Q R q;simp only [dI] at h;split at h
 ·rename_i avs e1 h1;split at h
  ·rename_i i j;split at h
   ·rename_i hj;cases h;refine ia _ _ _ h1 F0 H₀ I σ H _ R fun vs H1 R1 k1 a1=>?_;obtain ⟨v,r,rfl,hv,w,r2,rfl,hw,rfl⟩:=a1;have hv:v=.int i:=hv;have hw:w=.int j:=hw;subst hv hw;refine ⟨i,j,rfl,⟨hj.1,hj.2.1,hj.2.2.1,hj.2.2.2.1⟩,q _ H1 R1 k1 (fun i z=>by cases z) (u6 ?_)⟩;have:=hj.2.2.2.2;show (j - i).toNat<=2 ^ 24;omega
   ·cases h
  ·cases h
 ·cases h
end
open PySem
section
variable {K:Fg} {F F' I I' F0:Addr->Prop} {H H' H₀:Hp} {env env':En} {σ σ':St} {ga:Nat->V} {gd:List PyData}
theorem cZ.carry {d:PyData} {p:Addr} (h:cZ K F0 H₀ I env σ H (.frs d) (.ref p)) (S:Rel K (fun b=>F0 b\/b=p) H (IA env σ) env' σ H') (k:KpE env env'):cZ K F0 H₀ I env' σ H' (.frs d) (.ref p):=by
 obtain ⟨a,ea,R,t,w,nF,hi,hr⟩:=h;cases ea;have cIA:¬IA env σ p:=fun z=>by
  obtain ⟨i,⟨c,e | e⟩,s⟩:=z
  ·exact nF (.inr ⟨i,c,e,s⟩)
  ·exact hi i c e s
 have R':=R.aZ S;have hk:∀ b o,H b=some o->¬IA env σ b->H' b=some o:=S.cB;have pF:Pr (fun b=>FF F0 env σ b\/b=p) H H':=by
  have:=R.mH hk
  rwa [d6] at this
 have hf:∀ b,(FF F0 env' σ b\/b=p)->(FF F0 env σ b\/b=p):=fun b z=>z.imp (fun z=>k.ff z) id;refine ⟨p,rfl,R',t.pr pF hf fun o e=>hk p o e cIA,w,fun z=>nF (k.ff z),fun i c e s=>cIA ⟨i,k.mu ⟨c,.inr e⟩,s⟩,fun i c e=>?_⟩;obtain ⟨s,e0,ev⟩:=k.back e;have es:s=.ro c:=by
  cases s with
  | un=>cases ev
  | dat _=>cases ev
  | own _=>rcases ev with ⟨_,v⟩ | ⟨_,v⟩ | v <;> cases v
  | ino _=>obtain ⟨_,v⟩:=ev;cases v
  | ro d'=>cases ev;rfl
 subst es;obtain ⟨b,q,t'⟩:=hr i c e0;exact ⟨b,q,t'.pr pF hf (fun b z=>z.imp (fun z=>k.ia z) id) fun b o e n=>hk b o e fun z=>n (.inl z)⟩
theorem cZ.put {d d':PyData} {p:Addr} {o:HO} (h:cZ K F0 H₀ I env σ H (.frs d) (.ref p)) (ht:Top K (fun b=>FF F0 env σ b\/b=p) (upd H p o) d' p):cZ K F0 H₀ I env σ (upd H p o) (.frs d') (.ref p):=by
 obtain ⟨a,ea,R,t,w,nF,hi,hr⟩:=h;cases ea;have cIA:¬IA env σ p:=fun z=>by
  obtain ⟨i,⟨c,e | e⟩,s⟩:=z
  ·exact nF (.inr ⟨i,c,e,s⟩)
  ·exact hi i c e s
 have pF:Pr (fun b=>FF F0 env σ b\/b=p) H (upd H p o):=fun b u e n=>by
  by_cases z:b=p
  ·subst z;rcases n with n | n
   ·exact absurd (.inr rfl) n
   ·obtain ⟨o',h',w'⟩:=t.wr;rw [e] at h';cases h';rw [n] at w';cases w'
  ·rw [ag z];exact e
 have eF:FF (fun b=>F0 b\/b=p) env σ=fun b=>FF F0 env σ b\/b=p:=d6;have nea:∀ i b,mu env i->σ[i]?=some (some (.ref b))->b≠p:=fun i b m s z=>cIA (z▸⟨i,m,s⟩);have hro:∀ (i:Nat) (d':PyData),env[i]?=some (.ro d')->∃ b,σ[i]?=some (some (.ref b))/\d3 K (fun b=>FF F0 env σ b\/b=p) (fun b=>IA env σ b\/b=p) (upd H p o) d' b:=fun i c e=>by
  obtain ⟨b,q,t'⟩:=hr i c e;exact ⟨b,q,t'.pr pF (fun _ z=>z) (fun _ z=>z) fun b u e n=>by rw [ag (fun z=>n (.inr z))];exact e⟩
 refine ⟨p,rfl,⟨R.len,fun i c e=>?_,fun i c e=>?_,fun i c e=>?_,fun i c e=>?_,R.sep,fun b hb=>?_,fun b u e n=>?_⟩,ht,w,nF,hi,hro⟩
 ·obtain ⟨v,s,r⟩:=R.dat i c e;rw [eF] at r ⊢;exact ⟨v,s,r.pr pF fun _ z=>z⟩
 ·obtain ⟨b,s,n,w',t'⟩:=R.own i c e;rw [eF] at t' ⊢;exact ⟨b,s,n,w',t'.pr pF (fun _ z=>z) fun u e'=>by rw [ag (nea i b ⟨c,.inl e⟩ s)];exact e'⟩
 ·obtain ⟨b,s,n,w',t'⟩:=R.ino i c e;rw [eF] at t' ⊢;exact ⟨b,s,n,w',t'.pr pF (fun _ z=>z) fun u e'=>by rw [ag (nea i b ⟨c,.inr e⟩ s)];exact e'⟩
 ·obtain ⟨b,s,t'⟩:=hro i c e;rw [eF];exact ⟨b,s,t'.pr Pr.refl (fun _ z=>z) (fun _ z=>.inl z) fun _ _ z _=>z⟩
 ·by_cases z:b=p
  ·subst z;rw [ai];exact nofun
  ·rw [ag z];exact R.dom b hb
 ·have:=R.cB b u e n;by_cases z:b=p
  ·subst z;rcases w with w | w
   ·rw [e] at w;cases w
   ·exact absurd w n
  ·rw [ag z];exact this
theorem uy (a b:Key):PyData.eqv (kD a) (kD b)=decide (a=b):=by
 cases a with
 | inl i=>cases b with
  | inl j=>by_cases z:i=j <;> simp [kD,PyData.eqv,z]
  | inr y=>simp [kD,PyData.eqv]
 | inr x=>cases b with
  | inl j=>simp [kD,PyData.eqv]
  | inr y=>by_cases z:x=y <;> simp [kD,PyData.eqv,z]
theorem ua {k:PyData}:∀ {ds:List (PyData×PyData)} {xs:List (PyData×V×V)},DmP K F H ds xs->(ds.any fun kv=>PyData.eqv kv.1 k)=xs.any fun x=>PyData.eqv x.1 k
 | [],xs,h=>by rw [show xs=[] from h];rfl
 | (k',d) :: ds,xs,h=>by
  obtain ⟨j,v,r,rfl,_,_,_,h2⟩:=h;rw [List.any_cons,List.any_cons,ua h2]
theorem pN {k d:PyData} {v:V} (hd:Dm K F H d v):∀ {ds:List (PyData×PyData)} {xs:List (PyData×V×V)},DmP K F H ds xs->DmP K F H (ds.map fun kv=>if PyData.eqv kv.1 k=true then (kv.1,d) else kv) (xs.map fun x=>if PyData.eqv x.1 k=true then (x.1,x.2.1,v) else x)
 | [],xs,h=>by rw [show xs=[] from h];rfl
 | (k',d') :: ds,xs,h=>by
  obtain ⟨j,w,r,rfl,e,h0,h1,h2⟩:=h;rw [List.map_cons,List.map_cons];by_cases z:PyData.eqv k' k=true
  ·rw [Gs z,Gs z];exact ⟨j,v,_,rfl,e,h0,hd,pN hd h2⟩
  ·rw [Gy z,Gy z];exact ⟨j,w,_,rfl,e,h0,h1,pN hd h2⟩
theorem t7 {k d:PyData} {j v:V} (hk:hk6 k=true) (hj:Dm K F H k j) (hd:Dm K F H d v):∀ {ds:List (PyData×PyData)} {xs:List (PyData×V×V)},DmP K F H ds xs->DmP K F H (ds++[(k,d)]) (xs++[(k,j,v)])
 | [],xs,h=>by rw [show xs=[] from h];exact ⟨j,v,[],rfl,hk,hj,hd,rfl⟩
 | (k',d') :: ds,xs,h=>by
  obtain ⟨i,w,r,rfl,e,h0,h1,h2⟩:=h;exact ⟨i,w,_,rfl,e,h0,h1,t7 hk hj hd h2⟩
theorem yg {k d:PyData} {j v:V} {ds:List (PyData×PyData)} {xs:List (PyData×V×V)} (h:DmP K F H ds xs) (hk:hk6 k=true) (hj:Dm K F H k j) (hd:Dm K F H d v):DmP K F H (putD ds k d) (By xs k j v):=by
 unfold putD By;rw [ua h];split
 ·exact pN hd h
 ·exact t7 hk hj hd h
theorem An {kvs:List (Key×V)} {k:Key} {v:V}:(putK kvs k v).map cvK=By (kvs.map cvK) (kD k) (kV k) v:=by
 unfold putK By;have e:((kvs.map cvK).any fun x=>PyData.eqv x.1 (kD k))=kvs.any fun kv=>decide (kv.1=k):=by
  rw [List.any_map];congr 1;funext kv;exact uy _ _
 rw [e];split
 ·rw [List.map_map,List.map_map];refine List.map_congr_left fun kv _=>?_;show cvK (if kv.1=k then (kv.1,v) else kv)=if PyData.eqv (kD kv.1) (kD k)=true then _ else _
  rw [uy];by_cases z:kv.1=k
  ·rw [Gs z,Gs (Iy z)];rfl
  ·rw [Gy z,Gy (by simp [z])]
 ·rw [Hi];rfl
theorem rZ {kvs:List (Key×V)} {k:Key} {v:V}:(putK kvs k v).length<=kvs.length+1:=by
 unfold putK;split
 ·rw [Gg];exact HW _
 ·rw [Gf];exact Gu _
theorem AK (k:Key):hk6 (kD k)=true:=by cases k <;> rfl
theorem lz:∀ {kvs:List (Key×PyData)} {vs:List (Key×V)} {ds:List (PyData×PyData)} {xs:List (Key×V)},zF K F H kvs vs->DmP K F H ds (xs.map cvK)->DmP K F H (kvs.foldl (fun acc kv=>putD acc (kD kv.1) kv.2) ds) ((iq xs vs).map cvK)/\(iq xs vs).length<=xs.length+vs.length
 | [],vs,ds,xs,h,q=>by rw [show vs=[] from h];exact ⟨q,Gu _⟩
 | (k,d) :: kvs,vs,ds,xs,h,q=>by
  obtain ⟨v,r,rfl,h0,h1,h2⟩:=h;have:=lz h2 (xs:=putK xs k v) (by rw [An];exact yg q (AK k) h0 h1);refine ⟨this.1,GU this.2 ?_⟩;have:=rZ (kvs:=xs) (k:=k) (v:=v);rw [GH];omega
theorem zF.len:∀ {kvs:List (Key×PyData)} {vs:List (Key×V)},zF K F H kvs vs->vs.length=kvs.length
 | [],vs,h=>by rw [show vs=[] from h];rfl
 | (k,d) :: kvs,vs,h=>by
  obtain ⟨v,r,rfl,h0,h1,h2⟩:=h;rw [GH,GH,h2.len]
theorem CI:SPs K ga gd .nil:=by
 intro env kvs env' h F0 H₀ I σ H Q R q;simp only [dP] at h;cases h;exact q [] H R (KpE.refl _) rfl
theorem yL {k e:XE} {r:XP} (ik:SE K ga gd k) (ie:SE K ga gd e) (ir:SPs K ga gd r):SPs K ga gd (.cons k e r):=by
 intro env kvs env' h F0 H₀ I σ H Q R q;simp only [dP] at h;split at h
 ·rename_i rk e1 h1;split at h
  ·rename_i rv e2 h2;split at h
   ·rename_i kvs' e3 h3;split at h
    ·rename_i dk d hk hd;split at h
     ·rename_i key hkey;cases h;refine ik _ _ _ h1 F0 H₀ I σ H _ R fun v H1 R1 k1 r1=>?_;refine ie _ _ _ h2 F0 _ _ σ H1 _ R1.rebase fun u H2 S2 k2 r2=>?_;have R2:=R1.aZ S2;refine ir _ _ _ h3 F0 _ _ σ H2 _ R2.rebase fun vs H3 S3 k3 r3=>?_;have a1:=r1.av;rw [hk] at a1;have a2:=r2.av;rw [hd] at a2;have ev:v=kV key:=by
       cases dk with
       | int i=>cases hkey;exact (show v=.int i from a1)
       | str x=>cases hkey;exact (show v=.str x/\_ from a1).1
       | _=>cases hkey
      have dd:Dm K (FF F0 env' σ) H3 d u:=R2.lX S3 k3 a2;have dk':Dm K (FF F0 env' σ) H3 (kD key) (kV key):=by
       cases dk with
       | int i=>cases hkey;rfl
       | str x=>cases hkey;exact ⟨rfl,(show v=.str x/\_ from a1).2⟩
       | _=>cases hkey
      rw [ev];exact q ((key,u) :: vs) H3 (R2.aZ S3) ((k1.trans k2).trans k3) ⟨u,vs,rfl,dk',dd,r3⟩
     ·cases h
    ·cases h
   ·cases h
  ·cases h
 ·cases h
theorem CZ {as:XP} (ih:SPs K ga gd as):SE K ga gd (.dsp as):=by
 intro env rv env' h F0 H₀ I σ H Q R q;simp only [dE] at h;split at h
 ·rename_i kvs e1 h1;split at h
  ·rename_i hl;cases h;intro p hp;have s:=ay.nw (.dD 0 []) hp;have r0:cZ K F0 H₀ I env σ (upd H p (.dD 0 [])) (.frs (.dict [])) (.ref p):=R.j6 (pr:=.frs (.dict [])) s ⟨p,rfl,hp,0,[],ai,by decide,rfl⟩;have R0:=r0;obtain ⟨a,ea,R0,_,_,nF,hi,_⟩:=R0;cases ea;have cIA:¬IA env σ p:=fun z=>by
    obtain ⟨i,⟨c,e | e⟩,s⟩:=z
    ·exact nF (.inr ⟨i,c,e,s⟩)
    ·exact hi i c e s
   refine ih _ _ _ h1 _ _ _ σ _ _ R0.rebase fun vs H2 S2 k2 ps=>?_;have r2:=r0.carry S2 k2;rw [d6] at ps;have hm:=lz ps (xs:=[]) (show DmP K (fun b=>FF F0 env' σ b\/b=p) H2 [] [] from rfl);have hlen:(iq [] vs).length<=15:=by
    have:=hm.2;rw [ps.len] at this;simp only [Ig] at this;omega
   refine ⟨S2.cB p _ ai cIA,vs,rfl,by rw [ps.len];exact hl,fun ep=>?_⟩;have r3:cZ K F0 H₀ I env' σ (upd H2 p (.dD ep ((iq [] vs).map cvK))) (.frs (.dict (kvs.foldl (fun acc kv=>putD acc (kD kv.1) kv.2) []))) (.ref p):=by
    refine r2.put ⟨ep,(iq [] vs).map cvK,ai,by rw [Gg];exact GU hlen (by decide),hm.1.pr ?_ fun _ z=>z⟩;intro b u e n;by_cases z:b=p
    ·subst z;rcases n with n | n
     ·exact absurd (.inr rfl) n
     ·have:=S2.cB b _ ai cIA;rw [e] at this;cases this;cases n
    ·rw [ag z];exact e
   exact q _ _ r3.rel k2 r3
  ·cases h
 ·cases h
end
open PySem
section
variable {K:Fg} {F F' I I' F0:Addr->Prop} {H H' H₀:Hp} {env env':En} {σ σ':St} {ga:Nat->V} {gd:List PyData}
theorem j4 {α:Type}:∀ {l:List α} {i j:Nat} {x:α},l.Nodup->l[i]?=some x->l[j]?=some x->i=j
 | [],_,_,_,_,h,_=>by simp at h
 | y :: l,0,0,_,_,_,_=>rfl
 | y :: l,0,j+1,x,nd,h1,h2=>by
  simp at h1 h2;subst h1;exact absurd (Gx h2) (Hu.mp nd).1
 | y :: l,i+1,0,x,nd,h1,h2=>by
  simp at h1 h2;subst h2;exact absurd (Gx h1) (Hu.mp nd).1
 | y :: l,i+1,j+1,x,nd,h1,h2=>by
  simp at h1 h2;rw [j4 (Hu.mp nd).2 h1 h2]
def noOwn (env:En):Prop:=∀ (i:Nat) (d:PyData),env[i]?≠some (.own d)
theorem cg (h:noOwn env):FF F0 env σ=F0:=by
 funext b;apply propext;constructor
 ·rintro (q | ⟨i,d,e,_⟩)
  ·exact q
  ·exact absurd e (h i d)
 ·exact .inl
theorem noOwn.kp (h:noOwn env) (k:KpE env env'):noOwn env':=fun i d e=>by
 obtain ⟨d',e'⟩:=k.own e;exact h i d' e'
def nh:Sl->Prop | .dat _=>True | .un=>True | _=>False
theorem fR {pre:En} {ps:St} (hp:∀ s∈pre,nh s) (hl:pre.length=ps.length):FF F0 (pre++env) (ps++σ)=FF F0 env σ:=by
 funext b;apply propext;constructor
 ·rintro (q | ⟨i,d,e,s⟩)
  ·exact .inl q
  ·by_cases hi:i < pre.length
   ·rw [Gz hi] at e;have:=hp _ (Gx e);exact absurd this id
   ·rw [Gj (by omega)] at e;rw [Gj (by omega),<-hl] at s;exact .inr ⟨_,d,e,s⟩
 ·rintro (q | ⟨i,d,e,s⟩)
  ·exact .inl q
  ·refine .inr ⟨pre.length+i,d,?_,?_⟩
   ·rw [Gj (by omega)];simpa using e
   ·rw [Gj (by omega),hl];simpa using s
theorem jc {pre:En} (hp:∀ s∈pre,nh s) {i:Nat} (h:mu (pre++env) i):pre.length<=i/\mu env (i - pre.length):=by
 obtain ⟨d,h⟩:=h;by_cases hi:i < pre.length
 ·rw [Gz hi] at h;rcases h with h | h <;> exact absurd (hp _ (Gx h)) id
 ·rw [Gj (by omega)] at h;exact ⟨by omega,d,h⟩
theorem mF {pre:En} {ps:St} (hp:∀ s∈pre,nh s) (hl:pre.length=ps.length):IA (pre++env) (ps++σ)=IA env σ:=by
 funext b;apply propext;constructor
 ·rintro ⟨i,m,s⟩;obtain ⟨hi,m'⟩:=jc hp m;rw [Gj (by omega),<-hl] at s;exact ⟨_,m',s⟩
 ·rintro ⟨i,⟨d,m⟩,s⟩;refine ⟨pre.length+i,⟨d,?_⟩,?_⟩
  ·rw [Gj (by omega)];simpa using m
  ·rw [Gj (by omega),hl];simpa using s
theorem Rel.front (R:Rel K F0 H₀ I env σ H) {ds:List PyData} {vs:List V} (h:DmL K (FF F0 env σ) H ds vs):Rel K F0 H₀ I (ds.map .dat++env) (vs.map some++σ) H:=by
 have hp:∀ s∈(ds.map Sl.dat),nh s:=fun s hs=>by obtain ⟨d,_,rfl⟩:=GO.mp hs;trivial
 have hl:(ds.map Sl.dat).length=(vs.map some).length:=by rw [Gg,Gg,h.len]
 have hl2:(ds.map Sl.dat).length=ds.length:=Gg _;have eF:=fR (F0:=F0) (env:=env) (σ:=σ) hp hl;have eI:=mF (env:=env) (σ:=σ) hp hl;have back:∀ {i:Nat} {s:Sl},(ds.map Sl.dat++env)[i]?=some s->(∀ d,s≠.dat d)->(ds.map Sl.dat).length<=i/\env[i - (ds.map Sl.dat).length]?=some s:=fun {i s} e n=>by
  by_cases hi:i < (ds.map Sl.dat).length
  ·rw [Gz hi] at e;obtain ⟨d,_,z⟩:=GO.mp (Gx e);exact absurd z.symm (n d)
  ·rw [Gj (by omega)] at e;exact ⟨by omega,e⟩
 have fs:∀ {i:Nat} {x:Option V},(ds.map Sl.dat).length<=i->σ[i - (ds.map Sl.dat).length]?=some x->(vs.map some++σ)[i]?=some x:=fun {i x} hi e=>by
  rw [Gj (by omega),<-hl];exact e
 refine ⟨by rw [Gf,Gf,hl,R.len],fun i d e=>?_,fun i d e=>?_,fun i d e=>?_,fun i d e=>?_,fun i j a h1 h2 h3 h4=>?_,R.dom,R.cB⟩
 ·rw [eF];by_cases hi:i < (ds.map Sl.dat).length
  ·rw [Gz hi,GB] at e;cases e2:ds[i]? with
   | none=>rw [e2] at e;cases e
   | some d' =>
    rw [e2] at e;cases e;obtain ⟨v,q,r⟩:=h.get e2;refine ⟨v,?_,r⟩;rw [Gz (by omega),GB,q];rfl
  ·rw [Gj (by omega)] at e;obtain ⟨v,s,r⟩:=R.dat _ d e;exact ⟨v,fs (by omega) s,r⟩
 ·rw [eF];obtain ⟨hi,e⟩:=back e (fun _=>nofun);obtain ⟨a,s,q⟩:=R.own _ d e;exact ⟨a,fs hi s,q⟩
 ·rw [eF];obtain ⟨hi,e⟩:=back e (fun _=>nofun);obtain ⟨a,s,q⟩:=R.ino _ d e;exact ⟨a,fs hi s,q⟩
 ·rw [eF,eI];obtain ⟨hi,e⟩:=back e (fun _=>nofun);obtain ⟨a,s,q⟩:=R.ro _ d e;exact ⟨a,fs hi s,q⟩
 ·obtain ⟨i1,m1⟩:=jc hp h1;obtain ⟨i2,m2⟩:=jc hp h2;rw [Gj (by omega),<-hl] at h3 h4;have:=R.sep _ _ a m1 m2 h3 h4;omega
theorem Rel.behind {pre:En} {ps:St} (R:Rel K F0 H₀ I (pre++env) (ps++σ) H) (hp:∀ s∈pre,nh s) (hl:pre.length=ps.length):Rel K F0 H₀ I env σ H:=by
 have eF:=fR (F0:=F0) (env:=env) (σ:=σ) hp hl;have eI:=mF (env:=env) (σ:=σ) hp hl;have up:∀ {i:Nat} {s:Sl},env[i]?=some s->(pre++env)[pre.length+i]?=some s:=fun {i s} e=>by
  rw [Gj (by omega)];simpa using e
 have dn:∀ {i:Nat} {x:Option V},(ps++σ)[pre.length+i]?=some x->σ[i]?=some x:=fun {i x} e=>by
  rw [Gj (by omega),hl] at e;simpa using e
 have us:∀ {i:Nat} {x:Option V},σ[i]?=some x->(ps++σ)[pre.length+i]?=some x:=fun {i x} e=>by
  rw [Gj (by omega),hl];simpa using e
 refine ⟨by have:=R.len;rw [Gf,Gf,hl] at this;omega,fun i d e=>?_,fun i d e=>?_,fun i d e=>?_,fun i d e=>?_,fun i j a h1 h2 h3 h4=>?_,R.dom,R.cB⟩
 ·obtain ⟨v,s,r⟩:=R.dat _ d (up e);rw [eF] at r;exact ⟨v,dn s,r⟩
 ·obtain ⟨v,s,r⟩:=R.own _ d (up e);rw [eF] at r;exact ⟨v,dn s,r⟩
 ·obtain ⟨v,s,r⟩:=R.ino _ d (up e);rw [eF] at r;exact ⟨v,dn s,r⟩
 ·obtain ⟨v,s,r⟩:=R.ro _ d (up e);rw [eF,eI] at r;exact ⟨v,dn s,r⟩
 ·obtain ⟨d1,m1⟩:=h1;obtain ⟨d2,m2⟩:=h2;have:=R.sep (pre.length+i) (pre.length+j) a ⟨d1,m1.imp up up⟩ ⟨d2,m2.imp up up⟩ (us h3) (us h4);omega
theorem KpE.front {ds:List PyData} {e':En} (k:KpE (ds.map .dat++env) e'):∃ env',e'=ds.map .dat++env'/\KpE env env':=by
 have hlen:=k.1;rw [Gf,Gg] at hlen;refine ⟨e'.drop ds.length,?_,?_,fun i s e=>?_⟩
 ·apply Jp;intro i;by_cases hi:i < ds.length
  ·have hm:(ds.map Sl.dat++env)[i]?=some (.dat ds[i]):=by
    rw [Gz (by rw [Gg];exact hi),GB,Gd hi];rfl
   obtain ⟨s',h',ev⟩:=k.2 i _ hm;have ev:s'=.dat ds[i]:=ev;rw [h',ev,Gz (by rw [Gg];exact hi),GB,Gd hi];rfl
  ·rw [Gj (by rw [Gg];omega),IL,Gg];congr 1;omega
 ·rw [HC];omega
 ·obtain ⟨s',h',ev⟩:=k.2 (ds.length+i) s (by rw [Gj (by rw [Gg];omega),Gg];simpa using e);exact ⟨s',by rw [IL];exact h',ev⟩
theorem ee {lock:Option Nat} {js:List Nat} {k:Nat} {s:Sl} (h:(cX env lock js)[k]?=some s):∃ j,js[k]?=some j/\s=kF (decide (lock=some j)) (env[j]?.getD .un):=by
 unfold cX at h;rw [GB] at h;cases e:js[k]? with
 | none=>rw [e] at h;cases h
 | some j=>rw [e] at h;cases h;exact ⟨j,rfl,rfl⟩
theorem lL {js:List Nat} {k j:Nat} (h:js[k]?=some j):(aY js σ)[k]?=some ((σ[j]?).getD none):=by
 unfold aY;rw [GB,h];rfl
theorem bR {lock:Option Nat} {js:List Nat}:noOwn (cX env lock js):=fun k d e=>by
 obtain ⟨j,_,e'⟩:=ee e;cases h:env[j]?.getD .un with
 | un=>rw [h] at e';cases e'
 | dat _=>rw [h] at e';cases e'
 | own c=>rw [h] at e';unfold kF at e';simp only at e';split at e' <;> cases e'
 | ino c=>rw [h] at e';unfold kF at e';simp only at e';split at e' <;> cases e'
 | ro _=>rw [h] at e';cases e'
theorem getD_some {j:Nat} {s:Sl} (h:env[j]?.getD .un=s) (n:s≠.un):env[j]?=some s:=by
 cases e:env[j]? with
 | none=>rw [e] at h;exact absurd h.symm n
 | some t=>rw [e] at h;cases h;rfl
theorem lZ {lock:Option Nat} {js:List Nat} {k:Nat} {d:PyData} (h:(cX env lock js)[k]?=some (.ino d)):∃ j,js[k]?=some j/\lock≠some j/\(env[j]?=some (.own d)\/env[j]?=some (.ino d)):=by
 obtain ⟨j,hj,e'⟩:=ee h;refine ⟨j,hj,?_⟩;cases h:env[j]?.getD .un with
 | un=>rw [h] at e';cases e'
 | dat _=>rw [h] at e';cases e'
 | own c =>
  rw [h] at e';unfold kF at e';simp only at e';split at e'
  ·cases e'
  ·rename_i n;cases e';exact ⟨by simpa using n,.inl (getD_some h nofun)⟩
 | ino c =>
  rw [h] at e';unfold kF at e';simp only at e';split at e'
  ·cases e'
  ·rename_i n;cases e';exact ⟨by simpa using n,.inr (getD_some h nofun)⟩
 | ro _=>rw [h] at e';cases e'
theorem cI {lock:Option Nat} {js:List Nat} {k:Nat} (h:mu (cX env lock js) k):∃ j,js[k]?=some j/\lock≠some j/\mu env j:=by
 obtain ⟨d,h | h⟩:=h
 ·exact absurd h (bR k d)
 ·obtain ⟨j,h1,h2,h3⟩:=lZ h;exact ⟨j,h1,h2,d,h3⟩
theorem ba {js:List Nat} {k j:Nat} {a:Addr} (h:js[k]?=some j) (e:(aY js σ)[k]?=some (some (.ref a))):σ[j]?=some (some (.ref a)):=by
 rw [lL h] at e;cases q:σ[j]? with
 | none=>rw [q] at e;cases e
 | some x=>rw [q] at e;cases e;rfl
theorem bS {js:List Nat} {k j:Nat} {v:V} (h:js[k]?=some j) (e:σ[j]?=some (some v)):(aY js σ)[k]?=some (some v):=by rw [lL h,e];rfl
theorem Rel.aY (R:Rel K F0 H₀ I env σ H) {lock:Option Nat} {js:List Nat} (nd:js.Nodup):Rel K (FF F0 env σ) H (IA (cX env lock js) (L2.aY js σ)) (cX env lock js) (L2.aY js σ) H:=by
 have eF:FF (FF F0 env σ) (cX env lock js) (L2.aY js σ)=FF F0 env σ:=cg bR;have sub:∀ b,IA (cX env lock js) (L2.aY js σ) b->IA env σ b:=fun b ⟨k,m,s⟩=>by
  obtain ⟨j,hj,_,mj⟩:=cI m;exact ⟨j,mj,ba hj s⟩
 refine ⟨by unfold cX L2.aY;rw [Gg,Gg],fun k d e=>?_,fun k d e=>absurd e (bR k d),fun k d e=>?_,fun k d e=>?_,fun k l a h1 h2 h3 h4=>?_,fun b h=>R.c6 h,fun _ _ h _=>h⟩
 ·rw [eF];obtain ⟨j,hj,e'⟩:=ee e;have ej:env[j]?=some (.dat d):=by
   cases h:env[j]?.getD .un with
   | un=>rw [h] at e';cases e'
   | dat c=>rw [h] at e';cases e';exact getD_some h nofun
   | own c=>rw [h] at e';unfold kF at e';simp only at e';split at e' <;> cases e'
   | ino c=>rw [h] at e';unfold kF at e';simp only at e';split at e' <;> cases e'
   | ro _=>rw [h] at e';cases e'
  obtain ⟨v,s,r⟩:=R.dat j d ej;exact ⟨v,bS hj s,r⟩
 ·rw [eF];obtain ⟨j,hj,_,ej⟩:=lZ e;have:∃ a,σ[j]?=some (some (.ref a))/\FF F0 env σ a/\Top K (FF F0 env σ) H d a:=by
   rcases ej with ej | ej
   ·obtain ⟨a,s,_,_,t⟩:=R.own j d ej;exact ⟨a,s,.inr ⟨j,d,ej,s⟩,t⟩
   ·obtain ⟨a,s,f,_,t⟩:=R.ino j d ej;exact ⟨a,s,.inl f,t⟩
  obtain ⟨a,s,f,t⟩:=this;exact ⟨a,bS hj s,f,⟨k,⟨d,.inr e⟩,bS hj s⟩,t⟩
 ·rw [eF];obtain ⟨j,hj,e'⟩:=ee e;have lk:∀ a,lock=some j->mu env j->σ[j]?=some (some (.ref a))->¬IA (cX env lock js) (L2.aY js σ) a:=fun a hl m s ⟨k',m',s'⟩=>by
   obtain ⟨j',hj',hn,mj'⟩:=cI m';have:=R.sep j' j a mj' m (ba hj' s') s;subst this;exact hn hl
  cases h:env[j]?.getD .un with
  | un=>rw [h] at e';cases e'
  | dat c=>rw [h] at e';cases e'
  | own c =>
   rw [h] at e';unfold kF at e';simp only at e';split at e'
   ·rename_i n;cases e';have ej:=getD_some h nofun;obtain ⟨a,s,_,_,t⟩:=R.own j d ej;exact ⟨a,bS hj s,t.ro (lk a (by simpa using n) ⟨d,.inl ej⟩ s)⟩
   ·cases e'
  | ino c =>
   rw [h] at e';unfold kF at e';simp only at e';split at e'
   ·rename_i n;cases e';have ej:=getD_some h nofun;obtain ⟨a,s,_,_,t⟩:=R.ino j d ej;exact ⟨a,bS hj s,t.ro (lk a (by simpa using n) ⟨d,.inr ej⟩ s)⟩
   ·cases e'
  | ro c =>
   rw [h] at e';cases e';obtain ⟨a,s,t⟩:=R.ro j d (getD_some h nofun);exact ⟨a,bS hj s,t.pr Pr.refl (fun _ z=>z) sub fun _ _ z _=>z⟩
 ·obtain ⟨j1,e1,_,m1⟩:=cI h1;obtain ⟨j2,e2,_,m2⟩:=cI h2;have:=R.sep j1 j2 a m1 m2 (ba e1 h3) (ba e2 h4);subst this;exact j4 nd e1 e2
theorem aJ:∀ (env:En) (js:List Nat) (es:En),SmK env (aF env js es)
 | env,[],es=>by unfold aF;exact SmK.refl _
 | env,j :: js,[]=>by unfold aF;exact SmK.refl _
 | env,j :: js,s :: es=>by
  cases s with
  | ino d=>unfold aF;exact (cQ env j d).trans (aJ _ js es)
  | un=>unfold aF;exact aJ _ js es
  | dat _=>unfold aF;exact aJ _ js es
  | own _=>unfold aF;exact aJ _ js es
  | ro _=>unfold aF;exact aJ _ js es
theorem aK:∀ (env:En) (js:List Nat) (es:En) (i:Nat),i ∉ js->(aF env js es)[i]?=env[i]?
 | env,[],es,i,_=>by unfold aF;rfl
 | env,j :: js,[],i,_=>by unfold aF;rfl
 | env,j :: js,s :: es,i,h=>by
  have n:i≠j:=fun z=>h (by rw [z];exact Gm);have n':i ∉ js:=fun z=>h (Gp _ z);cases s with
  | ino d=>unfold aF;rw [aK _ js es i n',i4 n]
  | un=>unfold aF;exact aK _ js es i n'
  | dat _=>unfold aF;exact aK _ js es i n'
  | own _=>unfold aF;exact aK _ js es i n'
  | ro _=>unfold aF;exact aK _ js es i n'
theorem cP:∀ (env:En) (js:List Nat) (es:En) (k i:Nat) (s:Sl),js.Nodup->js[k]?=some i->es[k]?=some s->(∀ d,s=.ino d->mu env i->aA (aF env js es) i=some d)/\((∀ d,s≠.ino d)->(aF env js es)[i]?=env[i]?)
 | env,[],es,k,i,s,_,h,_=>by simp at h
 | env,j :: js,[],k,i,s,_,_,h=>by simp at h
 | env,j :: js,t :: es,0,i,s,nd,h,h'=>by
  obtain ⟨n1,nd'⟩:=Hu.mp nd;simp at h h';subst h h';constructor
  ·rintro d rfl m;unfold aF;have:=aK (fg env j d) js es j n1;unfold aA;rw [this];exact jj m
  ·intro hn;cases t with
   | ino d=>exact absurd rfl (hn d)
   | un=>unfold aF;exact aK _ js es j n1
   | dat _=>unfold aF;exact aK _ js es j n1
   | own _=>unfold aF;exact aK _ js es j n1
   | ro _=>unfold aF;exact aK _ js es j n1
 | env,j :: js,t :: es,k+1,i,s,nd,h,h'=>by
  obtain ⟨n1,nd'⟩:=Hu.mp nd;simp at h h';have hi:i∈js:=Gx h;have ne:i≠j:=fun z=>n1 (z▸hi);cases t with
  | ino d =>
   unfold aF;have ih:=cP (fg env j d) js es k i s nd' h h';refine ⟨fun d' e m=>ih.1 d' e ((cQ env j d).symm.kp.mu m),fun hn=>?_⟩;rw [ih.2 hn,i4 ne]
  | un=>unfold aF;exact cP env js es k i s nd' h h'
  | dat _=>unfold aF;exact cP env js es k i s nd' h h'
  | own _=>unfold aF;exact cP env js es k i s nd' h h'
  | ro _=>unfold aF;exact cP env js es k i s nd' h h'
theorem KpE.CT (k:KpE env env') {i:Nat} {d:PyData} (e:env[i]?=some (.ino d)):∃ d',env'[i]?=some (.ino d'):=by
 obtain ⟨s',h,ev⟩:=k.2 i _ e;obtain ⟨d',rfl⟩:=ev;exact ⟨d',h⟩
theorem Rel.back (R:Rel K F0 H₀ I env σ H) {lock:Option Nat} {js:List Nat} {ec:En} (nd:js.Nodup) (S:Rel K (FF F0 env σ) H (IA (cX env lock js) (L2.aY js σ)) ec (L2.aY js σ) H') (k:KpE (cX env lock js) ec):Rel K F0 H₀ I (aF env js ec) σ H':=by
 have sub:∀ b,IA (cX env lock js) (L2.aY js σ) b->IA env σ b:=fun b ⟨k,m,s⟩=>by
  obtain ⟨j,hj,_,mj⟩:=cI m;exact ⟨j,mj,ba hj s⟩
 have hk:∀ b o,H b=some o->¬IA env σ b->H' b=some o:=fun b o e n=>S.cB b o e fun z=>n (sub b z);have eFc:FF (FF F0 env σ) ec (L2.aY js σ)=FF F0 env σ:=cg (bR.kp k);refine R.chg (aJ env js ec) hk fun i d a hm hs=>?_;have sm:=aJ env js ec;have mi:mu env i:=sm.kp.mu ((lR hm).elim (fun e=>⟨d,.inl e⟩) fun e=>⟨d,.inr e⟩);have jo:(aF env js ec)[i]?=env[i]?->¬IA (cX env lock js) (L2.aY js σ) a->Top K (FF F0 env σ) H' d a:=fun e n=>by
  have hm':aA env i=some d:=by unfold aA at hm ⊢;rwa [e] at hm
  obtain ⟨_,a',s',_,t⟩:=R.cv hm';rw [hs] at s';cases s';exact t.pr (R.mH hk) (fun _ z=>z) fun o e=>S.cB a o e n
 by_cases hi:i∈js
 ·obtain ⟨p,hp⟩:=Hb.mp hi;have hlen:ec.length=js.length:=by rw [k.1];unfold cX;rw [Gg]
  have hpl:p < js.length:=(Gh.mp hp).1;have he:ec[p]?=some (ec[p]'(by omega)):=Gd _;obtain ⟨b1,b2⟩:=cP env js ec p i _ nd hp he;by_cases hl:lock=some i
  ·-- locked
   refine jo (b2 fun d' z=>?_) ?_
   ·rw [z] at he;obtain ⟨s,e0,ev⟩:=k.back he;obtain ⟨j,hj,e'⟩:=ee e0;rw [hp] at hj;cases hj;obtain ⟨c,hc | hc⟩:=mi
    ·rw [hc] at e';simp only [Option.getD_some,kF,hl,decide_true,Im] at e';subst e';cases ev
    ·rw [hc] at e';simp only [Option.getD_some,kF,hl,decide_true,Im] at e';subst e';cases ev
   ·rintro ⟨q,mq,sq⟩;obtain ⟨j',hj',hn,mj'⟩:=cI mq;have:=R.sep j' i a mj' mi (ba hj' sq) hs;subst this;exact hn hl
  ·have:∃ c,(cX env lock js)[p]?=some (.ino c):=by
    unfold cX;rw [GB,hp];obtain ⟨c,hc | hc⟩:=mi
    ·exact ⟨c,by rw [Option.map_some,hc];simp [kF,hl]⟩
    ·exact ⟨c,by rw [Option.map_some,hc];simp [kF,hl]⟩
   obtain ⟨c,hc⟩:=this;obtain ⟨d',hd'⟩:=k.CT hc;rw [he] at hd';have ed:=b1 d' (Hr hd') mi;rw [hm] at ed;cases ed;obtain ⟨a',s',_,_,t⟩:=S.ino p d (by rw [he];exact hd');have:=ba hp s';rw [hs] at this;cases this
   rwa [eFc] at t
 ·refine jo (aK env js ec i hi) ?_;rintro ⟨q,mq,sq⟩;obtain ⟨j',hj',hn,mj'⟩:=cI mq;have:=R.sep j' i a mj' mi (ba hj' sq) hs;subst this;exact hi (Gx hj')
end
open PySem
section
variable {K:Fg} {F F' I I' F0:Addr->Prop} {H H' H₀ H1:Hp} {env env' e1:En} {σ σ':St} {ga:Nat->V} {gd:List PyData}
def BK (K:Fg) (F:Addr->Prop) (H:Hp) (acc:List V):Option PyData->List V->Prop
 | none,acc'=>acc'=acc
 | some d,acc'=>∃ v,acc'=acc++[v]/\Dm K F H d v
theorem oI {step:PyData->En->Option (Option PyData×En)} {ds ys:List PyData} {ec:En} {lock:Option Nat} {js:List Nat} {J:It} {Q:VK} {τ:Type} {TI:τ->Prop} {t0:τ} {body:τ->List V->V->Hp->(τ->List V->Hp->Prop)->Prop} (ht0:TI t0)
  (R1:Rel K F0 H₀ I e1 σ H1) (nd:js.Nodup) (hit:sC K (FF F0 e1 σ) (fun b=>IA e1 σ b/\∀ i,lock=some i->mu e1 i->σ[i]?≠some (some (.ref b))) H1 J ds) (h2:qW step ds (cX e1 lock js)=some (ys,ec))
  (turn:∀ t acc d envc y envc' x H',TI t->step d envc=some (y,envc')->Rel K (FF F0 e1 σ) H1 (IA (cX e1 lock js) (aY js σ)) envc (aY js σ) H'->noOwn envc->Dm K (FF F0 e1 σ) H' d x->∀ N:τ->List V->Hp->Prop,
   (∀ t' acc' H2,TI t'->Rel K (FF F0 e1 σ) H1 (IA (cX e1 lock js) (aY js σ)) envc' (aY js σ) H2->KpE envc envc'->Pr (FF F0 e1 σ) H' H2->BK K (FF F0 e1 σ) H2 acc y acc'->N t' acc' H2)->body t acc x H' N)
  (fin:∀ acc H',Rel K F0 H₀ I (aF e1 js ec) σ H'->DmL K (FF F0 e1 σ) H' ys acc->acc.length<=sizeLine->∀ p,H' p=none->Q (.ref p) (upd H' p (.lst acc))) :
  ∃ W:Nat->Nat->τ->List V->Hp->Prop,(∃ m,W 0 m t0 [] H1)/\∀ i m t acc H,W i m t acc H ->
   (J.stop i H/\acc.length<=sizeLine/\∀ p,H p=none->Q (.ref p) (upd H p (.lst acc)))\/(J.go i H/\acc.length < sizeLine/\∀ x H',J.yld i H x H'->body t acc x H' fun t' acc' H2=>∃ m',m' < m/\W (i+1) m' t' acc' H2):=by
 obtain ⟨hvl,hturn⟩:=hit;have sub:∀ b,IA (cX e1 lock js) (aY js σ) b->IA e1 σ b/\∀ i,lock=some i->mu e1 i->σ[i]?≠some (some (.ref b)):=fun b ⟨k,m,s⟩=>by
  obtain ⟨j,hj,hn,mj⟩:=cI m;refine ⟨⟨j,mj,ba hj s⟩,fun i hl mi si=>?_⟩;have:=R1.sep j i b mj mi (ba hj s) si;subst this;exact hn hl
 have Rc0:=R1.aY (lock:=lock) nd
 refine ⟨fun i m t acc H'=>TI t/\m=ds.length - i/\i<=ds.length/\acc.length<=i/\∃ envc done rest,qW step (ds.drop i) envc=some (rest,ec)/\ys=done++rest/\Rel K (FF F0 e1 σ) H1 (IA (cX e1 lock js) (aY js σ)) envc (aY js σ) H'/\KpE (cX e1 lock js) envc/\DmL K (FF F0 e1 σ) H' done acc,
  ⟨ds.length,ht0,rfl,Hn _,Gu _,cX e1 lock js,[],ys,h2,rfl,Rc0,KpE.refl _,rfl⟩,?_⟩
 rintro i m t acc H' ⟨hti,rfl,hi,hal,envc,done,rest,hc,hy,Rc,kc,hacc⟩;have hkept:∀ b o,H1 b=some o->¬(IA e1 σ b/\∀ i,lock=some i->mu e1 i->σ[i]?≠some (some (.ref b)))->H' b=some o:=fun b o e n=>Rc.cB b o e fun z=>n (sub b z);by_cases hlt:i < ds.length
 ·right;obtain ⟨go,yld⟩:=(hturn H' hkept i).1 (by omega);refine ⟨go,by omega,fun x H'' hx=>?_⟩;obtain ⟨d,hd,hy9⟩:=yld x H'' hx;obtain ⟨sm,hdx'⟩:=hy9.dm (F2:=FF F0 e1 σ) fun d v h=>h.pr (R1.mH fun b o e n=>hkept b o e fun z=>n z.1) fun _ z=>z;have Rc:=Rc.same sm;have hacc:=hacc.pr (fun b o e _=>sm b o e) fun _ z=>z;have ed:ds.drop i=d :: ds.drop (i+1):=by
   rw [HF hlt];obtain ⟨_,q⟩:=Gh.mp hd;rw [q]
  rw [ed] at hc;unfold qW at hc;split at hc
  ·rename_i y envc' hs;split at hc
   ·rename_i ys' e2 hr;cases hc;refine turn t acc d envc y envc' x H'' hti hs Rc (bR.kp kc) hdx' _ fun t' acc' H2 ht' R2 k2 p2 ha=>⟨_,by omega,ht',rfl,by omega,?_,envc',done++y.toList,ys',hr,by rw [hy,GI],R2,kc.trans k2,?_⟩
    ·cases y with
     | none=>rw [show acc'=acc from ha];omega
     | some dy=>obtain ⟨v,rfl,_⟩:=ha;rw [Gf];simp;omega
    ·have hacc':=hacc.pr p2 fun _ z=>z;cases y with
     | none=>rw [show acc'=acc from ha];simpa using hacc'
     | some dy=>obtain ⟨v,rfl,hv⟩:=ha;exact hacc'.snoc hv
   ·cases hc
  ·cases hc
 ·left;have e:i=ds.length:=by omega
  subst e;have hz:acc.length<=sizeLine:=by omega
  rw [List.drop_length] at hc;unfold qW at hc;cases hc;rw [Hx] at hy;subst hy;exact ⟨(hturn H' hkept _).2 (by omega),hz,fin acc H' (R1.back nd Rc kc) hacc hz⟩
theorem C5 {js:List Nat} {it:XI} {c:XT} {e:XE} (ii:SI K ga gd it) (ic:ST K ga gd c) (ie:SE K ga gd e):SE K ga gd (.cmp js it c e):=by
 intro env rv env' h F0 H₀ I σ H Q R q;simp only [dE] at h;split at h
 ·rename_i ds lock e1 h1;split at h
  ·rename_i nd;split at h
   ·rename_i ys ec h2;cases h;refine ii _ _ _ _ h1 F0 H₀ I σ H _ R fun J H1 R1 k1 _ hit=>?_;refine Exists.elim (oI (Q:=Q) (τ:=Unit) (TI:=fun _=>True) (t0:=()) (body:=fun _ acc x H' N=>rT K ga c (some x :: aY js σ) H' fun b H2=>if b=true then rE K ga e (some x :: aY js σ) H2 fun y H3=>N () (acc++[y]) H3 else N () acc H2) trivial R1 nd hit h2 ?_ ?_) fun W hw=>?_
    rotate_right 1
    ·obtain ⟨w0,hW⟩:=hw;exact ⟨fun i m acc H=>W i m () acc H,w0,fun i m acc H w=>hW i m () acc H w⟩
    ·intro _ acc d envc y envc' x H' _ hs Rc no hd N hN;have eF:FF (FF F0 e1 σ) envc (aY js σ)=FF F0 e1 σ:=cg no;have Rx:Rel K (FF F0 e1 σ) H1 (IA (cX e1 lock js) (aY js σ)) (.dat d :: envc) (some x :: aY js σ) H':=Rc.front (ds:=[d]) (vs:=[x]) ⟨x,[],rfl,by rw [eF];exact hd,rfl⟩;have frontF:∀ {e2:En},KpE envc e2->FF (FF F0 e1 σ) (.dat d :: e2) (some x :: aY js σ)=FF F0 e1 σ:=fun {e2} k=>by
      have:=fR (F0:=FF F0 e1 σ) (env:=e2) (σ:=aY js σ) (pre:=[.dat d]) (ps:=[some x]) (fun s hs=>by rw [Gn.mp hs];trivial) rfl;exact this.trans (cg (no.kp k))
     unfold eU at hs;split at hs
     ·rename_i e2 hT;split at hs
      ·rename_i rv e3 hE;split at hs
       ·rename_i dy hv;cases hs;refine ic _ _ _ hT _ _ _ _ H' _ Rx.rebase fun H2 S2 k2=>?_;rw [Gs rfl];have R2:=Rx.aZ S2;refine ie _ _ _ hE _ _ _ _ H2 _ R2.rebase fun v H3 S3 k3 r3=>?_;have R3:=R2.aZ S3;obtain ⟨ex,e3',kx⟩:=(k2.trans k3).front (ds:=[d]);have k23:=k2.trans k3;subst e3';have ht:(([d].map Sl.dat)++ex).tail=ex:=rfl;obtain ⟨e2x,e2',k2x⟩:=k2.front (ds:=[d]);have p12:Pr (FF F0 e1 σ) H' H2:=by have:=Rx.mH S2.cB;rwa [frontF (KpE.refl _)] at this
        have p23:Pr (FF F0 e1 σ) H2 H3:=by
         have:=R2.mH S3.cB;rw [e2'] at this
         rwa [show FF (FF F0 e1 σ) ([d].map Sl.dat++e2x) (some x :: aY js σ)=FF F0 e1 σ from frontF k2x] at this
        have a3:=r3.av;rw [hv] at a3;have dv:Dm K (FF F0 e1 σ) H3 dy v:=by
         have:Dm K (FF (FF F0 e1 σ) ([d].map Sl.dat++ex) (some x :: aY js σ)) H3 dy v:=a3
         rwa [show FF (FF F0 e1 σ) ([d].map Sl.dat++ex) (some x :: aY js σ)=FF F0 e1 σ from frontF kx] at this
        exact hN () _ H3 trivial (R3.behind (pre:=[.dat d]) (ps:=[some x]) (fun s hs=>by rw [Gn.mp hs];trivial) rfl) kx (p12.trans p23 fun _ z=>z) ⟨v,rfl,dv⟩
       ·cases hs
      ·cases hs
     ·rename_i e2 hT;cases hs;refine ic _ _ _ hT _ _ _ _ H' _ Rx.rebase fun H2 S2 k2=>?_;rw [Gy (by decide)];have R2:=Rx.aZ S2;obtain ⟨ex,e2',kx⟩:=k2.front (ds:=[d]);subst e2';have p12:Pr (FF F0 e1 σ) H' H2:=by have:=Rx.mH S2.cB;rwa [frontF (KpE.refl _)] at this
      exact hN () _ H2 trivial (R2.behind (pre:=[.dat d]) (ps:=[some x]) (fun s hs=>by rw [Gn.mp hs];trivial) rfl) kx p12 rfl
     ·cases hs
    ·intro acc H' R' hd hz p hp;have eF:=(aJ e1 js ec).ff (F0:=F0) (σ:=σ);have s:=ay.nw (.lst acc) hp;exact q _ _ (R'.same s) (k1.trans (aJ e1 js ec).kp) (R'.j6 (pr:=.frs (.list ys)) s ⟨p,rfl,hp,acc,ai,hz,by rw [eF];exact (hd.fresh hp).pr (Pr.of_same s) fun _ z=>z⟩)
   ·cases h
  ·cases h
 ·cases h
noncomputable def zx:St->Nat->List V->St
 | σ,_,[]=>σ
 | σ,k,v :: vs=>zx (σ.set k (some v)) (k+1) vs
theorem j5:∀ {vs:List V} {k:Nat} {σ:St} {H:Hp} {Q:St->Hp->Prop},Q (zx σ k vs) H->gNs (List.range' k vs.length) vs σ H Q
 | [],_,_,_,_,h=>⟨rfl,h⟩
 | v :: vs,k,σ,H,Q,h=>⟨v,vs,rfl,j5 (vs:=vs) (k:=k+1) h⟩
theorem lF:∀ {vs:List V} {pre hd tl:St},hd.length=vs.length->zx (pre++(hd++tl)) pre.length vs=pre++(vs.map some++tl)
 | [],pre,hd,tl,h=>by
  have:hd=[]:=GZ h;subst this;rfl
 | v :: vs,pre,[],tl,h=>by cases h
 | v :: vs,pre,x :: hd,tl,h=>by
  have hl:hd.length=vs.length:=by simpa using h
  have e:(pre++(x :: hd++tl)).set pre.length (some v)=(pre++[some v])++(hd++tl):=by
   rw [List.set_append_right _ _ (Gu _)];simp
  unfold zx;rw [e];have:=lF (vs:=vs) (pre:=pre++[some v]) (hd:=hd) (tl:=tl) hl;rw [Gf] at this;rw [show pre.length+1=pre.length+[some v].length from rfl,this];simp
theorem p4 (n:List Str):(e6 n).length=n.length:=by unfold e6;rw [Gg]
theorem yp {n:List Str} {js:List Nat} {it:XI} {e:XE} (ii:SI K ga gd it) (ie:SE K ga gd e):SE K ga gd (.xu n js it e):=by
 intro env rv env' h F0 H₀ I σ H Q R q;simp only [dE] at h;split at h
 ·rename_i ds lock e1 h1;split at h
  ·rename_i nd;split at h
   ·rename_i ys ec h2;cases h;refine ii _ _ _ _ h1 F0 H₀ I σ H _ R fun J H1 R1 k1 _ hit=>?_;refine Exists.elim (oI (Q:=Q) (τ:=St) (TI:=fun t=>∃ hd:St,hd.length=n.length/\t=hd++aY js σ) (t0:=e6 n++aY js σ) (body:=fun t acc x H' N=>gTp K (List.range n.length) x t H' fun σ2 H2=>rE K ga e σ2 H2 fun y H3=>N σ2 (acc++[y]) H3) ⟨e6 n,p4 n,rfl⟩ R1 nd hit h2 ?_ ?_) fun W hw=>?_
    rotate_right 1
    ·obtain ⟨w0,hW⟩:=hw;exact ⟨W,w0,hW⟩
    ·rintro t acc d envc y envc' x H' ⟨hd,hl,rfl⟩ hs Rc no hdx N hN;have eF:FF (FF F0 e1 σ) envc (aY js σ)=FF F0 e1 σ:=cg no;unfold dZ at hs;split at hs
     ·rename_i xs;split at hs
      ·rename_i hxl;split at hs
       ·rename_i rv e3 hE;split at hs
        ·rename_i dy hv;cases hs;obtain ⟨a,vs,rfl,hq,hz,hdl⟩:=hdx;have hvl:vs.length=n.length:=by rw [hdl.len,hxl]
         refine ⟨a,vs,rfl,hq,by rw [Hf];exact hvl,?_⟩;rw [List.range_eq_range',<-hvl];refine j5 ?_;have es:zx (hd++aY js σ) 0 vs=vs.map some++aY js σ:=lF (pre:=[]) (by rw [hl,hvl]);rw [es];have Rx:Rel K (FF F0 e1 σ) H1 (IA (cX e1 lock js) (aY js σ)) (xs.map .dat++envc) (vs.map some++aY js σ) H':=Rc.front (by rw [eF];exact hdl);have hpre:∀ s∈(xs.map Sl.dat),nh s:=fun s hs=>by obtain ⟨d,_,rfl⟩:=GO.mp hs;trivial
         have hpl:(xs.map Sl.dat).length=(vs.map some).length:=by rw [Gg,Gg,hdl.len]
         have frontF:∀ {e2:En},KpE envc e2->FF (FF F0 e1 σ) (xs.map .dat++e2) (vs.map some++aY js σ)=FF F0 e1 σ:=fun {e2} k=>(fR hpre hpl).trans (cg (no.kp k));refine ie _ _ _ hE _ _ _ _ H' _ Rx.rebase fun v H3 S3 k3 r3=>?_;have R3:=Rx.aZ S3;obtain ⟨ex,e3',kx⟩:=k3.front;subst e3';have p:Pr (FF F0 e1 σ) H' H3:=by have:=Rx.mH S3.cB;rwa [frontF (KpE.refl _)] at this
         have a3:=r3.av;rw [hv] at a3;have dv:Dm K (FF F0 e1 σ) H3 dy v:=by
          have:Dm K (FF (FF F0 e1 σ) (xs.map .dat++ex) (vs.map some++aY js σ)) H3 dy v:=a3
          rwa [frontF kx] at this
         have ed:(xs.map Sl.dat++ex).drop n.length=ex:=by rw [<- hxl,<-Gg (f:=Sl.dat),Jj]
         rw [ed] at hN;exact hN _ _ H3 ⟨vs.map some,by rw [Gg];exact hvl,rfl⟩ (R3.behind hpre hpl) kx p ⟨v,rfl,dv⟩
        ·cases hs
       ·cases hs
      ·cases hs
     ·cases hs
    ·intro acc H' R' hd hz p hp;have eF:=(aJ e1 js ec).ff (F0:=F0) (σ:=σ);have s:=ay.nw (.lst acc) hp;exact q _ _ (R'.same s) (k1.trans (aJ e1 js ec).kp) (R'.j6 (pr:=.frs (.list ys)) s ⟨p,rfl,hp,acc,ai,hz,by rw [eF];exact (hd.fresh hp).pr (Pr.of_same s) fun _ z=>z⟩)
   ·cases h
  ·cases h
 ·cases h
mutual
theorem sE (hg:∀ g d,gd[g]?=some d->∀ F H,Dm K F H d (ga g)):∀ e:XE,SE K ga gd e
 | .var i=>C2 i | .mov i=>Cg i | .tke i=>Dq i | .cst c=>BA c | .glb g=>B8 hg g
 | .prm p as=>BE (sA hg as) | .met m o as=>B9 (sE hg o) (sA hg as) | .mtr m i as=>BB (sA hg as) | .call f as=>s_call (sA hg as)
 | .tup as=>B5 (sA hg as) | .lst as=>BU (sA hg as) | .dsp as=>CZ (sPs hg as) | .fst as=>Dz (sF hg as)
 | .ifx c a b=>DZ (sT hg c) (sE hg a) (sE hg b) | .wt a b=>yx (sE hg a) (sE hg b) | .orv a b=>D1 (sE hg a) (sE hg b) | .xH a=>AW (sE hg a)
 | .chn p q a b c=>DM (sE hg a) (sE hg b) (sE hg c) | .sl2 p a b c=>D7 (sE hg a) (sE hg b) (sE hg c)
 | .cmp js it c e=>C5 (sI hg it) (sT hg c) (sE hg e) | .xu n js it e=>yp (sI hg it) (sE hg e)
theorem sA (hg:∀ g d,gd[g]?=some d->∀ F H,Dm K F H d (ga g)):∀ e:XA,SA K ga gd e
 | .nil=>Eg | .cons e r=>zD (sE hg e) (sA hg r)
theorem sF (hg:∀ g d,gd[g]?=some d->∀ F H,Dm K F H d (ga g)):∀ e:XA,SF K ga gd e
 | .nil=>Cj | .cons e r=>Aa (sE hg e) (sF hg r)
theorem sPs (hg:∀ g d,gd[g]?=some d->∀ F H,Dm K F H d (ga g)):∀ e:XP,SPs K ga gd e
 | .nil=>CI | .cons k e r=>yL (sE hg k) (sE hg e) (sPs hg r)
theorem sT (hg:∀ g d,gd[g]?=some d->∀ F H,Dm K F H d (ga g)):∀ e:XT,ST K ga gd e
 | .tst e=>BW (sE hg e) | .tru e=>DP (sE hg e) | .and a b=>D3 (sT hg a) (sT hg b) | .or a b=>F3 (sT hg a) (sT hg b) | .not a=>Dy (sT hg a) | .yes=>CO
theorem sI (hg:∀ g d,gd[g]?=some d->∀ F H,Dm K F H d (ga g)):∀ e:XI,SI K ga gd e
 | .lst e=>wX (sE hg e) | .tup e=>xX (sE hg e) | .str e=>Ct (sE hg e) | .rng1 as=>yd (sA hg as) | .rng2 as=>zw (sA hg as) | .dct e=>BI (sE hg e) | .sq e=>FV (sE hg e) | .zip as=>C1 (sA hg as)
end
end
open PySem
section
variable {K:Fg} {F F' I I' F0:Addr->Prop} {H H' H₀ H1:Hp} {env env' e1:En} {σ σ':St} {ga:Nat->V} {gd:List PyData}
theorem LsF.aR {a:Addr} {xs:List V} (h:LsF K F H a xs):LsF K (fun b=>F b\/H b=none) H a xs:=by
 rcases h with ⟨n,h⟩ | h
 ·refine .inl ⟨fun z=>z.elim n fun e=>?_,h⟩;rcases h with h | ⟨o,h⟩ <;> (rw [e] at h;cases h)
 ·exact .inr h
mutual
theorem Dm.aR:∀ {d:PyData} {v:V},Dm K F H d v->Dm K (fun b=>F b\/H b=none) H d v
 | .none,v,h=>h
 | .bool b,v,h=>h
 | .int i,v,h=>h
 | .str x,v,h=>h
 | .list ds,v,h=>by
  obtain ⟨a,xs,e,l,z,r⟩:=h;exact ⟨a,xs,e,l.aR,z,DmL.aR r⟩
 | .tuple ds,v,h=>by
  obtain ⟨a,xs,e,l,z,r⟩:=h;exact ⟨a,xs,e,l,z,DmL.aR r⟩
 | .dict kvs,v,h=>by
  obtain ⟨a,ep,xs,e,n,l,z,r⟩:=h;exact ⟨a,ep,xs,e,fun q=>q.elim n fun q=>(by rw [q] at l;cases l),l,z,DmP.aR r⟩
theorem DmL.aR:∀ {ds:List PyData} {vs:List V},DmL K F H ds vs->DmL K (fun b=>F b\/H b=none) H ds vs
 | [],vs,h=>h
 | d :: ds,vs,h=>by
  obtain ⟨v,r,e,h1,h2⟩:=h;exact ⟨v,r,e,Dm.aR h1,DmL.aR h2⟩
theorem DmP.aR:∀ {ds:List (PyData×PyData)} {vs:List (PyData×V×V)},DmP K F H ds vs->DmP K (fun b=>F b\/H b=none) H ds vs
 | [],vs,h=>h
 | (k,d) :: ds,vs,h=>by
  obtain ⟨j,v,r,e,e2,h0,h1,h2⟩:=h;exact ⟨j,v,r,e,e2,Dm.aR h0,Dm.aR h1,DmP.aR h2⟩
end
theorem Top.aR {d:PyData} {a:Addr} (h:Top K F H d a):Top K (fun b=>F b\/H b=none) H d a:=by
 cases d with
 | list ds=>obtain ⟨xs,e,z,r⟩:=h;exact ⟨xs,e,z,r.aR⟩
 | dict ds=>obtain ⟨ep,xs,e,z,r⟩:=h;exact ⟨ep,xs,e,z,r.aR⟩
 | _=>exact absurd h id
theorem d3.aR {d:PyData} {a:Addr} (h:d3 K F I H d a):d3 K (fun b=>F b\/H b=none) (fun b=>I b\/H b=none) H d a:=by
 cases d with
 | list ds=>obtain ⟨xs,e,z,r⟩:=h;exact ⟨xs,e.aR,z,r.aR⟩
 | dict ds =>
  obtain ⟨ep,xs,n,e,z,r⟩:=h;exact ⟨ep,xs,fun q=>q.elim n fun q=>(by rw [q] at e;cases e),e,z,r.aR⟩
 | _=>exact absurd h id
theorem Pr.EU (p:Pr F H H') (h:∀ b,F b->F' b):Pr F' H H':=fun b o e n=>p b o e (n.imp (fun z q=>z (h _ q)) id)
def Evs:Sl->Sl->Prop
 | .ino _,s=>∃ d,s=.ino d
 | .ro d,s=>s=.ro d
 | _,s=>(∀ d,s≠.ino d)/\∀ d,s≠.ro d
def yZ:Sl->Prop | .ino _=>True | .ro _=>True | _=>False
def KpS (env:En) (σ:St) (env':En) (σ':St):Prop:=env'.length=env.length/\∀ (i:Nat) (s:Sl),env[i]?=some s->∃ s',env'[i]?=some s'/\Evs s s'/\(yZ s->σ'[i]?=σ[i]?)
theorem Evs.refl:∀ s,Evs s s
 | .un=>⟨fun _=>nofun,fun _=>nofun⟩
 | .dat _=>⟨fun _=>nofun,fun _=>nofun⟩
 | .own d=>⟨fun _=>nofun,fun _=>nofun⟩
 | .ino d=>⟨d,rfl⟩
 | .ro _=>rfl
def soft (s:Sl):Prop:=(∀ d,s≠.ino d)/\∀ d,s≠.ro d
theorem Evs.soft {s s':Sl} (h:Evs s s') (q:L2.soft s):L2.soft s':=by
 cases s with
 | ino d=>exact absurd rfl (q.1 d)
 | ro d=>exact absurd rfl (q.2 d)
 | _=>exact h
theorem Evs.of {s s':Sl} (q:L2.soft s) (q':L2.soft s'):Evs s s':=by
 cases s with
 | ino d=>exact absurd rfl (q.1 d)
 | ro d=>exact absurd rfl (q.2 d)
 | _=>exact q'
theorem Evs.trans {a b c:Sl} (h:Evs a b) (q:Evs b c):Evs a c:=by
 cases a with
 | ino d=>obtain ⟨d',rfl⟩:=h;exact q
 | ro d=>rw [show b=.ro d from h] at q;exact q
 | un=>exact Evs.of ⟨fun _=>nofun,fun _=>nofun⟩ (q.soft h)
 | dat _=>exact Evs.of ⟨fun _=>nofun,fun _=>nofun⟩ (q.soft h)
 | own _=>exact Evs.of ⟨fun _=>nofun,fun _=>nofun⟩ (q.soft h)
theorem Evs.yZ {a b:Sl} (h:Evs a b) (q:L2.yZ a):L2.yZ b:=by
 cases a with
 | ino d=>obtain ⟨d',rfl⟩:=h;trivial
 | ro d=>rw [show b=.ro d from h];trivial
 | _=>exact absurd q id
theorem KpS.refl (env:En) (σ:St):KpS env σ env σ:=⟨rfl,fun i s e=>⟨s,e,.refl s,fun _=>rfl⟩⟩
theorem KpS.trans {a b c:En} {x y z:St} (h:KpS a x b y) (q:KpS b y c z):KpS a x c z:=⟨q.1.trans h.1,fun i s e=>by
 obtain ⟨s1,e1,v1,w1⟩:=h.2 i s e;obtain ⟨s2,e2,v2,w2⟩:=q.2 i s1 e1
 exact ⟨s2,e2,v1.trans v2,fun t=>(w2 (v1.yZ t)).trans (w1 t)⟩⟩
theorem KpE.s (k:KpE env env'):KpS env σ env' σ:=⟨k.1,fun i s e=>by
 obtain ⟨s',e',v⟩:=k.2 i s e;refine ⟨s',e',?_,fun _=>rfl⟩;cases s with
 | un=>rw [show s'=.un from v];exact .refl _
 | dat d=>rw [show s'=.dat d from v];exact .refl _
 | own d=>rcases v with ⟨d',rfl⟩ | ⟨d',rfl⟩ | rfl <;> exact ⟨fun _=>nofun,fun _=>nofun⟩
 | ino d=>exact v
 | ro d=>exact v⟩
theorem fZ {i:Nat} (h:free env i=true):∃ s,env[i]?=some s/\L2.soft s:=by
 unfold free at h;split at h
 ·rename_i e;exact ⟨_,e,fun _=>nofun,fun _=>nofun⟩
 ·rename_i e;exact ⟨_,e,fun _=>nofun,fun _=>nofun⟩
 ·rename_i e;exact ⟨_,e,fun _=>nofun,fun _=>nofun⟩
 ·cases h
theorem nH {i:Nat} {s s':Sl} {x:Option V} (e:env[i]?=some s) (q:L2.soft s) (q':L2.soft s'):KpS env σ (env.set i s') (σ.set i x):=by
 have hi:i < env.length:=(Gh.mp e).1;refine ⟨Ha,fun j t h=>?_⟩;by_cases z:i=j
 ·subst z;rw [e] at h;cases h;refine ⟨s',GC hi,.of q q',fun t=>?_⟩;cases s with
  | ino d=>exact absurd rfl (q.1 d)
  | ro d=>exact absurd rfl (q.2 d)
  | _=>exact absurd t id
 ·exact ⟨t,by rw [Gk z];exact h,.refl t,fun _=>by rw [Gk z]⟩
def jQ (K:Fg) (F0:Addr->Prop) (H₀:Hp) (I:Addr->Prop) (env:En) (σ:St) (D:Ends):Out->Prop
 | .nx e=>∀ σ' H',Rel K F0 H₀ I e σ' H'->KpS env σ e σ'->D.nx σ' H'
 | .bk e=>∀ σ' H',Rel K F0 H₀ I e σ' H'->KpS env σ e σ'->D.bk σ' H'
 | .ct e=>∀ σ' H',Rel K F0 H₀ I e σ' H'->KpS env σ e σ'->D.ct σ' H'
 | .rt rv e=>∀ v σ' H',Rel K F0 H₀ I e σ' H'->KpS env σ e σ'->cZ K F0 H₀ I e σ' H' rv v->D.rt v H'
def SS (K:Fg) (ga:Nat->V) (gd:List PyData) (s:XS):Prop:=∀ (env:En) (out:Out),dS gd s env=some out->∀ (F0:Addr->Prop) (H₀:Hp) (I:Addr->Prop) (σ:St) (H:Hp) (D:Ends),Rel K F0 H₀ I env σ H->jQ K F0 H₀ I env σ D out->rS K ga s D σ H
theorem jQ.from {D:Ends} {out:Out} (k:KpS env σ env' σ') (h:jQ K F0 H₀ I env σ D out):jQ K F0 H₀ I env' σ' D out:=by
 cases out with
 | nx e=>exact fun s h1 r q=>h s h1 r (k.trans q)
 | bk e=>exact fun s h1 r q=>h s h1 r (k.trans q)
 | ct e=>exact fun s h1 r q=>h s h1 r (k.trans q)
 | rt rv e=>exact fun v s h1 r q w=>h v s h1 r (k.trans q) w
theorem xV {a b:XS} (ia:SS K ga gd a) (ib:SS K ga gd b):SS K ga gd (.seq a b):=by
 intro env out h F0 H₀ I σ H D R q;simp only [dS] at h;split at h
 ·rename_i e h1;refine ia _ _ h1 F0 H₀ I σ H _ R fun σ' H' R' k'=>?_;exact ib _ _ h F0 H₀ I σ' H' D R' (q.from k')
 ·rename_i hn;refine ia _ _ h F0 H₀ I σ H _ R ?_;cases out with
  | nx e=>exact absurd h (hn e)
  | bk e=>exact q
  | ct e=>exact q
  | rt rv e=>exact q
theorem Rel.Co (R:Rel K F0 H₀ I env σ H) {i:Nat} {d:PyData} {v:V} (hf:free env i=true) (h:Dm K (FF F0 env σ) H d v):Rel K F0 H₀ I (env.set i (.dat d)) (σ.set i (some v)) H/\KpS env σ (env.set i (.dat d)) (σ.set i (some v)):=by
 obtain ⟨s,e,q⟩:=fZ hf;have hi:i < env.length:=(Gh.mp e).1;have R1:=R.forget i (some v);have:=R1.putD (i:=i) (d:=d) (v:=v) (GC hi) (h.mono (R.sub i _).1);rw [HZ,HZ] at this;exact ⟨this,nH e q ⟨fun _=>nofun,fun _=>nofun⟩⟩
theorem vd {i:Nat} {e:XE} (ie:SE K ga gd e):SS K ga gd (.a6 i e):=by
 intro env out h F0 H₀ I σ H D R q;simp only [dS] at h;split at h
 ·rename_i rv e1 h1;split at h
  ·rename_i d hv;split at h
   ·rename_i hf;cases h;refine ie _ _ _ h1 F0 H₀ I σ H _ R fun v H1 R1 k1 r1=>?_;have a1:=r1.av;rw [hv] at a1;obtain ⟨R2,k2⟩:=R1.Co hf (show Dm K _ H1 d v from a1);exact q _ H1 R2 (k1.s.trans k2)
   ·cases h
  ·cases h
 ·cases h
theorem cZ.forget {d:PyData} {v:V} (h:cZ K F0 H₀ I env σ H (.frs d) v) (i:Nat) (x:Option V) (hs:∀ s,env[i]?=some s->L2.soft s):cZ K F0 H₀ I (env.set i .un) (σ.set i x) H (.frs d) v:=by
 obtain ⟨a,ea,R,t,w,nF,hi,hr⟩:=h;have R0:=R.less hi;obtain ⟨hf,hia⟩:=R0.sub i x;have hf':∀ b,(FF F0 (env.set i .un) (σ.set i x) b\/b=a)->(FF F0 env σ b\/b=a):=fun b z=>z.imp (hf b) id;refine ⟨a,ea,R.forget i x,t.pr Pr.refl hf' fun _ z=>z,w,fun z=>nF (hf _ z),fun j c e s=>?_,fun j c e=>?_⟩
 ·rcases get_set e with ⟨_,z⟩ | ⟨n,e⟩
  ·cases z
  ·rw [Gk n] at s;exact hi j c e s
 ·rcases get_set e with ⟨_,z⟩ | ⟨n,e⟩
  ·cases z
  ·obtain ⟨b,s,r⟩:=hr j c e;exact ⟨b,by rw [Gk n];exact s,r.pr Pr.refl hf' (fun b z=>z.imp (hia b) id) fun _ _ z _=>z⟩
theorem wQ {i:Nat} {e:XE} (ie:SE K ga gd e):SS K ga gd (.ny i e):=by
 intro env out h F0 H₀ I σ H D R q;simp only [dS] at h;split at h
 ·rename_i d e1 h1;split at h
  ·rename_i hf;cases h;refine ie _ _ _ h1 F0 H₀ I σ H _ R fun v H1 R1 k1 r1=>?_;obtain ⟨s,e,qs⟩:=fZ hf;have hi:i < e1.length:=(Gh.mp e).1;have ev:∃ a,v=.ref a:=let ⟨a,e,_⟩:=r1;⟨a,e⟩
   obtain ⟨a,rfl⟩:=ev;have r2:=r1.forget i (some (.ref a)) (fun s' h=>by rw [e] at h;cases h;exact qs);have R2:=Rel.EI (i:=i) (GC hi) r2;rw [HZ,HZ] at R2;exact q _ H1 R2 (k1.s.trans (nH e qs ⟨fun _=>nofun,fun _=>nofun⟩))
  ·cases h
 ·cases h
theorem kC:∀ {is:List Nat} {ds:List PyData} {vs:List V} {env env':En} {σ:St} {Q:St->Hp->Prop},d7 env is ds=some env'->Rel K F0 H₀ I env σ H->DmL K (FF F0 env σ) H ds vs->(∀ σ',Rel K F0 H₀ I env' σ' H->KpS env σ env' σ'->Q σ' H)->gNs is vs σ H Q
 | [],[],vs,env,env',σ,Q,h,R,hd,q=>by
  cases h;exact ⟨hd,q σ R (KpS.refl _ _)⟩
 | [],d :: ds,vs,env,env',σ,Q,h,R,hd,q=>by cases h
 | i :: is,[],vs,env,env',σ,Q,h,R,hd,q=>by cases h
 | i :: is,d :: ds,vs,env,env',σ,Q,h,R,hd,q=>by
  unfold d7 at h;split at h
  ·rename_i hf;obtain ⟨v,r,rfl,h1,h2⟩:=hd;obtain ⟨R1,k1⟩:=R.Co hf h1;obtain ⟨s,e,qs⟩:=fZ hf;refine ⟨v,r,rfl,?_⟩;refine kC h R1 (h2.mono fun b z=>?_) fun σ' R' k'=>q σ' R' (k1.trans k');rcases z with z | ⟨j,c,e',s'⟩
   ·exact .inl z
   ·rcases get_set e' with ⟨_,y⟩ | ⟨n,e'⟩
    ·cases y
    ·rw [Gk n] at s';exact .inr ⟨j,c,e',s'⟩
  ·cases h
theorem wu {is:List Nat} {e:XE} (ie:SE K ga gd e):SS K ga gd (.yP is e):=by
 intro env out h F0 H₀ I σ H D R q;simp only [dS] at h;split at h
 ·rename_i rv e1 h1;split at h
  ·rename_i ds hv;split at h
   ·rename_i e2 hset;cases h;refine ie _ _ _ h1 F0 H₀ I σ H _ R fun v H1 R1 k1 r1=>?_;have a1:=r1.av;rw [hv] at a1;obtain ⟨a,xs,rfl,l,z,r⟩:=(show Dm K (FF F0 e1 σ) H1 (.tuple ds) v from a1);have hlen:∀ {is:List Nat} {ds:List PyData} {e e':En},d7 e is ds=some e'->is.length=ds.length:=by
     intro is;induction is with
     | nil=>intro ds e e' h;cases ds with
      | nil=>rfl
      | cons _ _=>cases h
     | cons i is ih=>intro ds e e' h;cases ds with
      | nil=>cases h
      | cons d ds =>
       unfold d7 at h;split at h
       ·rw [GH,GH,ih h]
       ·cases h
    exact ⟨a,xs,rfl,l,by rw [r.len,hlen hset],kC hset R1 r fun σ' R' k'=>q σ' H1 R' (k1.s.trans k')⟩
   ·cases h
  ·cases h
 ·cases h
theorem vf {e:XE} (ie:SE K ga gd e):SS K ga gd (.drop e):=by
 intro env out h F0 H₀ I σ H D R q;simp only [dS] at h;split at h
 ·rename_i rv e1 h1;cases h;exact ie _ _ _ h1 F0 H₀ I σ H _ R fun v H1 R1 k1 r1=>q σ H1 R1 k1.s
 ·cases h
theorem y9 {e:XE} (ie:SE K ga gd e):SS K ga gd (.ret e):=by
 intro env out h F0 H₀ I σ H D R q;simp only [dS] at h;split at h
 ·rename_i rv e1 h1;cases h;exact ie _ _ _ h1 F0 H₀ I σ H _ R fun v H1 R1 k1 r1=>q v σ H1 R1 k1.s r1
 ·cases h
theorem y8 {c:XT} {a b:XS} (ic:ST K ga gd c) (ia:SS K ga gd a) (ib:SS K ga gd b):SS K ga gd (.ifs c a b):=by
 intro env out h F0 H₀ I σ H D R q;simp only [dS] at h;split at h
 ·rename_i e1 h1;refine ic _ _ _ h1 F0 H₀ I σ H _ R fun H1 R1 k1=>?_;rw [Gs rfl];exact ia _ _ h F0 H₀ I σ H1 D R1 (q.from k1.s)
 ·rename_i e1 h1;refine ic _ _ _ h1 F0 H₀ I σ H _ R fun H1 R1 k1=>?_;rw [Gy (by decide)];exact ib _ _ h F0 H₀ I σ H1 D R1 (q.from k1.s)
 ·cases h
theorem yc {m:uI} {i:Nat} {k e:XE} (ik:SE K ga gd k) (ie:SE K ga gd e):SS K ga gd (.sto m i k e):=by
 intro env out h F0 H₀ I σ H D R q;simp only [dS] at h;split at h
 ·rename_i rv e1 h1;split at h
  ·rename_i x hv;split at h
   ·rename_i d0 hm0;split at h
    ·rename_i rk e2 h2;split at h
     ·rename_i dk d hvk hm;split at h
      ·rename_i d' hf;cases h;refine ie _ _ _ h1 F0 H₀ I σ H _ R fun v H1 R1 k1 r1=>?_;obtain ⟨_,a,s,_⟩:=R1.cv hm0;refine ⟨.ref a,s,?_⟩;refine ik _ _ _ h2 F0 _ _ σ H1 _ R1.rebase fun u H2 S2 k2 r2=>?_;have R2:=R1.aZ S2;have a1:=r1.av;rw [hv] at a1;have dx:=R1.lX S2 k2 (show Dm K _ H1 x v from a1);obtain ⟨m2,a',s',f2,t2⟩:=R2.cv hm;rw [s] at s';cases s';refine m.ok K _ H2 d a dk x u v d' _ hf f2 t2 (r2.av.vw R2 hvk) dx fun H3 hk ht=>?_;exact q σ H3 (R2.Ey hm s hk ht) ((k1.trans k2).trans (n8 _ _ _)).s
      ·cases h
     ·cases h
    ·cases h
   ·cases h
  ·cases h
 ·cases h
theorem BP {n:Nat} {c:XT} {b:XS} (ic:ST K ga gd c) (ib:SS K ga gd b):SS K ga gd (.wh n c b):=by
 intro env out h F0 H₀ I σ H D R q;simp only [dS] at h;refine ⟨fun m σ' H'=>∃ env',whL (dT gd c) (dS gd b) m env'=some out/\Rel K F0 H₀ I env' σ' H'/\KpS env σ env' σ',⟨n,env,h,R,KpS.refl _ _⟩,?_⟩;rintro m σ' H' ⟨env',hw,R',k'⟩;cases m with
 | zero=>cases hw
 | succ m =>
  unfold whL at hw;split at hw
  ·rename_i e1 h1;refine ic _ _ _ h1 F0 H₀ I σ' H' _ R' fun H2 R2 k2=>?_;rw [Gs rfl];refine ⟨fun σ3 H3=>∃ env3,whL (dT gd c) (dS gd b) m env3=some out/\Rel K F0 H₀ I env3 σ3 H3/\KpS env σ env3 σ3,fun σ3 H3 z=>⟨m,Ia _,z⟩,?_⟩;split at hw
   ·rename_i e hb;exact ib _ _ hb F0 H₀ I σ' H2 _ R2 fun σ3 H3 R3 k3=>⟨e,hw,R3,(k'.trans k2.s).trans k3⟩
   ·rename_i e hb;exact ib _ _ hb F0 H₀ I σ' H2 _ R2 fun σ3 H3 R3 k3=>⟨e,hw,R3,(k'.trans k2.s).trans k3⟩
   ·rename_i e hb;cases hw;exact ib _ _ hb F0 H₀ I σ' H2 _ R2 fun σ3 H3 R3 k3=>q σ3 H3 R3 ((k'.trans k2.s).trans k3)
   ·rename_i r e hb;cases hw;exact ib _ _ hb F0 H₀ I σ' H2 _ R2 fun v σ3 H3 R3 k3 r3=>q v σ3 H3 R3 ((k'.trans k2.s).trans k3) r3
   ·cases hw
  ·rename_i e1 h1;cases hw;refine ic _ _ _ h1 F0 H₀ I σ' H' _ R' fun H2 R2 k2=>?_;rw [Gy (by decide)];exact q σ' H2 R2 (k'.trans k2.s)
  ·cases hw
end
open PySem
section
variable {K:Fg} {F F' I I' F0:Addr->Prop} {H H' H₀ H1:Hp} {env env' e1:En} {σ σ':St} {ga:Nat->V} {gd:List PyData}
theorem Rel.Cb (R:Rel K F0 H₀ I env σ H) (h:∀ b,I b->I' b):Rel K F0 H₀ I' env σ H :=
 ⟨R.len,R.dat,fun i d e=>let ⟨a,s,n,w,t⟩:=R.own i d e;⟨a,s,n,w.imp id (h _),t⟩,fun i d e=>let ⟨a,s,n,w,t⟩:=R.ino i d e;⟨a,s,n,h _ w,t⟩,R.ro,R.sep,R.dom,fun b o e n=>R.cB b o e fun z=>n (h _ z)⟩
theorem Rel.eqF {F1:Addr->Prop} (R:Rel K F0 H₀ I env σ H) (h:∀ b,F0 b↔F1 b):Rel K F1 H₀ I env σ H:=by
 have:F0=F1:=funext fun b=>propext (h b);exact this▸R
theorem Rel.BY (R:Rel K F0 H₀ I env σ H) {i:Nat} {d:PyData} {a:Addr} (hu:env[i]?=some .un) (s:σ[i]?=some (some (.ref a))) (h:d3 K (FF F0 env σ) (IA env σ) H d a):Rel K F0 H₀ I (env.set i (.ro d)) σ H:=by
 have hi:i < env.length:=(Gh.mp hu).1;have eF:FF F0 (env.set i (.ro d)) σ=FF F0 env σ:=by
  have:=iA (F0:=F0) (σ:=σ) (s:=.ro d) (x:=some (.ref a)) hu (fun _=>nofun)
  rwa [set_same s] at this
 have eI:IA (env.set i (.ro d)) σ=IA env σ:=by
  have:=pz (σ:=σ) (s:=.ro d) (x:=some (.ref a)) hu (fun _=>⟨nofun,nofun⟩)
  rwa [set_same s] at this
 have mm:∀ j,mu (env.set i (.ro d)) j->mu env j:=fun j h=>by
  obtain ⟨c,e | e⟩:=h
  ·rcases get_set e with ⟨_,z⟩ | ⟨n,e⟩
   ·cases z
   ·exact ⟨c,.inl e⟩
  ·rcases get_set e with ⟨_,z⟩ | ⟨n,e⟩
   ·cases z
   ·exact ⟨c,.inr e⟩
 refine ⟨by rw [Ha];exact R.len,fun j c e=>?_,fun j c e=>?_,fun j c e=>?_,fun j c e=>?_,fun j k b h1 h2 h3 h4=>R.sep j k b (mm j h1) (mm k h2) h3 h4,R.dom,R.cB⟩
 ·rw [eF];rcases get_set e with ⟨_,z⟩ | ⟨n,e⟩
  ·cases z
  exact R.dat j c e
 ·rw [eF];rcases get_set e with ⟨_,z⟩ | ⟨n,e⟩
  ·cases z
  exact R.own j c e
 ·rw [eF];rcases get_set e with ⟨_,z⟩ | ⟨n,e⟩
  ·cases z
  exact R.ino j c e
 ·rw [eF,eI];rcases get_set e with ⟨z,y⟩ | ⟨n,e⟩
  ·subst z;cases y;exact ⟨a,s,h⟩
  exact R.ro j c e
theorem Rel.Fj (R:Rel K F0 H₀ I env σ H) {i:Nat} {d:PyData} {a:Addr} (hu:env[i]?=some .un) (s:σ[i]?=some (some (.ref a))) (h:Top K (FF F0 env σ) H d a) (hF:F0 a) (hI:I a) (na:∀ j,mu env j->σ[j]?≠some (some (.ref a)))
  (hro:∀ (j:Nat) (c:PyData),env[j]?=some (.ro c)->∃ b,σ[j]?=some (some (.ref b))/\d3 K (FF F0 env σ) (fun b=>IA env σ b\/b=a) H c b):Rel K F0 H₀ I (env.set i (.ino d)) σ H:=by
 have hi:i < env.length:=(Gh.mp hu).1;have eF:FF F0 (env.set i (.ino d)) σ=FF F0 env σ:=by
  have:=iA (F0:=F0) (σ:=σ) (s:=.ino d) (x:=some (.ref a)) hu (fun _=>nofun)
  rwa [set_same s] at this
 have mm:∀ j,mu (env.set i (.ino d)) j->i=j\/(mu env j/\i≠j):=fun j h=>by
  obtain ⟨c,e | e⟩:=h
  ·rcases get_set e with ⟨z,_⟩ | ⟨n,e⟩
   ·exact .inl z
   ·exact .inr ⟨⟨c,.inl e⟩,n⟩
  ·rcases get_set e with ⟨z,_⟩ | ⟨n,e⟩
   ·exact .inl z
   ·exact .inr ⟨⟨c,.inr e⟩,n⟩
 have eI:∀ b,IA (env.set i (.ino d)) σ b->IA env σ b\/b=a:=by
  rintro b ⟨j,m,q⟩;rcases mm j m with z | ⟨m',n⟩
  ·subst z;rw [s] at q;cases q;exact .inr rfl
  ·exact .inl ⟨j,m',q⟩
 refine ⟨by rw [Ha];exact R.len,fun j c e=>?_,fun j c e=>?_,fun j c e=>?_,fun j c e=>?_,fun j k b h1 h2 h3 h4=>?_,R.dom,R.cB⟩
 ·rw [eF];rcases get_set e with ⟨_,z⟩ | ⟨n,e⟩
  ·cases z
  exact R.dat j c e
 ·rw [eF];rcases get_set e with ⟨_,z⟩ | ⟨n,e⟩
  ·cases z
  exact R.own j c e
 ·rw [eF];rcases get_set e with ⟨z,y⟩ | ⟨n,e⟩
  ·subst z;cases y;exact ⟨a,s,hF,hI,h⟩
  exact R.ino j c e
 ·rw [eF];rcases get_set e with ⟨_,z⟩ | ⟨n,e⟩
  ·cases z
  obtain ⟨b,q,r⟩:=hro j c e;exact ⟨b,q,r.pr Pr.refl (fun _ z=>z) eI fun _ _ z _=>z⟩
 ·rcases mm j h1 with z1 | ⟨m1,n1⟩
  ·rcases mm k h2 with z2 | ⟨m2,n2⟩
   ·rw [<- z1,<-z2]
   ·rw [<- z1,s] at h3;cases h3;exact absurd h4 (na k m2)
  ·rcases mm k h2 with z2 | ⟨m2,n2⟩
   ·rw [<- z2,s] at h4;cases h4;exact absurd h3 (na j m1)
   ·exact R.sep j k b m1 m2 h3 h4
structure Lk (K:Fg) (F0:Addr->Prop) (H₀:Hp) (I:Addr->Prop) (e1:En) (σ:St) (H1:Hp) (lock:Option Nat) (F1:Addr->Prop):Prop where
 rel:Rel K F1 H₀ I (bg e1 lock) σ H1
 ff:FF F1 (bg e1 lock) σ=FF F0 e1 σ
 ia:∀ b,IA (bg e1 lock) σ b->IA e1 σ b/\∀ i,lock=some i->mu e1 i->σ[i]?≠some (some (.ref b))
 un:∀ env' σ' H',Rel K F1 H1 (IA (bg e1 lock) σ) env' σ' H'->KpS (bg e1 lock) σ env' σ'->Rel K F0 H₀ I (ao e1 lock env') σ' H'/\KpS e1 σ (ao e1 lock env') σ'/\FF F0 (ao e1 lock env') σ'=FF F1 env' σ'
theorem Lk.pX (R:Rel K F0 H₀ I e1 σ H1) {lock:Option Nat} (h1:bg e1 lock=e1) (h2:∀ env',ao e1 lock env'=env') (h3:∀ i,lock=some i->¬mu e1 i):Lk K F0 H₀ I e1 σ H1 lock F0 :=
 ⟨by rw [h1];exact R,by rw [h1],fun b hb=>by rw [h1] at hb;exact ⟨hb,fun i hi m=>absurd m (h3 i hi)⟩,fun env' σ' H' S k=>by rw [h1] at S k;rw [h2];exact ⟨R.aZ S,k,rfl⟩⟩
theorem Lk.yk (R:Rel K F0 H₀ I e1 σ H1) {i:Nat} {d:PyData} {a:Addr} (e:e1[i]?=some (.own d)\/e1[i]?=some (.ino d)) (s:σ[i]?=some (some (.ref a))):Lk K F0 H₀ I e1 σ H1 (some i) (fun b=>F0 b\/b=a):=by
 have hi:i < e1.length:=by rcases e with e | e <;> exact (Gh.mp e).1
 have mi:mu e1 i:=⟨d,e⟩;have el:bg e1 (some i)=e1.set i (.ro d):=by simp only [bg];rcases e with e | e <;> rw [e]
 have hm:aA e1 i=some d:=by unfold aA;rcases e with e | e <;> rw [e]
 obtain ⟨_,a',s',fa,ta⟩:=R.cv hm;rw [s] at s';cases s';have hu:(e1.set i .un)[i]?=some .un:=GC hi;have mmu:∀ j,mu (e1.set i .un) j->mu e1 j/\i≠j:=fun j h=>by
  obtain ⟨c,e | e⟩:=h
  ·rcases get_set e with ⟨_,z⟩ | ⟨n,e⟩
   ·cases z
   ·exact ⟨⟨c,.inl e⟩,n⟩
  ·rcases get_set e with ⟨_,z⟩ | ⟨n,e⟩
   ·cases z
   ·exact ⟨⟨c,.inr e⟩,n⟩
 have nIA:¬IA (e1.set i .un) σ a:=fun ⟨j,m,q⟩=>(mmu j m).2 (R.sep i j a mi (mmu j m).1 s q);have eFu:FF (fun b=>F0 b\/b=a) (e1.set i .un) σ=FF F0 e1 σ:=by
  funext b;apply propext;constructor
  ·rintro ((h | h) | ⟨j,c,e',q⟩)
   ·exact .inl h
   ·exact h▸fa
   ·rcases get_set e' with ⟨_,z⟩ | ⟨n,e'⟩
    ·cases z
    ·exact .inr ⟨j,c,e',q⟩
  ·rintro (h | ⟨j,c,e',q⟩)
   ·exact .inl (.inl h)
   ·by_cases n:i=j
    ·subst n;rw [s] at q;cases q;exact .inl (.inr rfl)
    ·exact .inr ⟨j,c,by rw [Gk n];exact e',q⟩
 have Ru:Rel K (fun b=>F0 b\/b=a) H₀ I (e1.set i .un) σ H1:=by
  rcases e with e | e
  ·obtain ⟨a2,s2,r⟩:=R.take e;rw [s] at s2;cases s2;obtain ⟨a3,ea,R',_⟩:=r;cases ea;exact R'
  ·have:=R.forget i (some (.ref a));rw [set_same s] at this;obtain ⟨a2,s2,f2,_⟩:=R.ino i d e;rw [s] at s2;cases s2;exact this.eqF fun b=>⟨.inl,fun z=>z.elim id fun z=>z▸f2⟩
 have Rl:Rel K (fun b=>F0 b\/b=a) H₀ I (e1.set i (.ro d)) σ H1:=by
  have:=Ru.BY (d:=d) hu s (by rw [eFu];exact ta.ro nIA)
  rwa [HZ] at this
 have eFl:FF (fun b=>F0 b\/b=a) (e1.set i (.ro d)) σ=FF F0 e1 σ:=by
  rw [<- eFu];have:=iA (F0:=fun b=>F0 b\/b=a) (σ:=σ) (s:=.ro d) (x:=some (.ref a)) hu (fun _=>nofun)
  rwa [set_same s,HZ] at this
 have eIl:IA (e1.set i (.ro d)) σ=IA (e1.set i .un) σ:=by
  have:=pz (σ:=σ) (s:=.ro d) (x:=some (.ref a)) hu (fun _=>⟨nofun,nofun⟩)
  rwa [set_same s,HZ] at this
 have iaSub:∀ b,IA (e1.set i (.ro d)) σ b->IA e1 σ b:=fun b hb=>by rw [eIl] at hb;obtain ⟨j,m,q⟩:=hb;exact ⟨j,(mmu j m).1,q⟩
 refine ⟨by rw [el];exact Rl,by rw [el];exact eFl,fun b hb=>?_,fun env' σ' H' S k=>?_⟩
 ·rw [el,eIl] at hb;obtain ⟨j,m,q⟩:=hb;refine ⟨⟨j,(mmu j m).1,q⟩,fun i' hi' mi' si'=>?_⟩;cases hi';exact (mmu j m).2 (R.sep i j b mi (mmu j m).1 si' q)
 ·rw [el] at S k;have hro:(e1.set i (.ro d))[i]?=some (.ro d):=GC hi;obtain ⟨si,he,hv,hs⟩:=k.2 i _ hro;have hv:si=.ro d:=hv;subst hv;have hs:=(hs trivial).trans s;have hi':i < env'.length:=(Gh.mp he).1;have na1:¬IA (e1.set i (.ro d)) σ a:=by rw [eIl];exact nIA
  have keepA:∀ o,H1 a=some o->H' a=some o:=fun o z=>S.cB a o z na1;have fSub:∀ b,FF (fun b=>F0 b\/b=a) env' σ' b->(FF F0 e1 σ b\/H1 b=none):=fun b z=>by
   rcases z with (z | z) | ⟨j,c,e',q⟩
   ·exact .inl (.inl z)
   ·exact .inl (z▸fa)
   ·obtain ⟨b',q',_,w,_⟩:=S.own j c e';rw [q] at q';cases q';rcases w with w | w
    ·exact .inr w
    ·exact .inl (R.ia (iaSub b w))
  have pF:Pr (fun b=>FF F0 e1 σ b\/H1 b=none) H1 H':=(R.mH fun b o z n=>S.cB b o z fun y=>n (iaSub b y)).EU fun b z=>.inl z;have tA:Top K (FF (fun b=>F0 b\/b=a) env' σ') H' d a:=ta.aR.pr pF fSub keepA;have iaEnd:∀ b,IA env' σ' b->(IA e1 σ b\/H1 b=none):=fun b z=>by
   rcases S.iaI z with w | w
   ·exact .inr w
   ·exact .inl (iaSub b w)
  have roOld:∀ (j:Nat) (c:PyData),env'[j]?=some (.ro c)->i≠j->∃ b,σ'[j]?=some (some (.ref b))/\d3 K (FF (fun b=>F0 b\/b=a) env' σ') (fun b=>IA env' σ' b\/b=a) H' c b:=fun j c e' n=>by
   have hj:j < e1.length:=by
    have:=(Gh.mp e').1;rw [k.1,Ha] at this;exact this
   have e0:(e1.set i (.ro d))[j]?=some e1[j]:=by rw [Gk n];exact Gd hj
   obtain ⟨s',h',v',w'⟩:=k.2 j _ e0;rw [e'] at h';cases h';have es:e1[j]=.ro c:=by
    cases hh:e1[j] with
    | ino _=>rw [hh] at v';obtain ⟨_,z⟩:=v';cases z
    | ro c'=>rw [hh] at v';have:Sl.ro c=.ro c':=v';rw [this]
    | un=>rw [hh] at v';exact absurd rfl (v'.2 c)
    | dat _=>rw [hh] at v';exact absurd rfl (v'.2 c)
    | own _=>rw [hh] at v';exact absurd rfl (v'.2 c)
   have er:e1[j]?=some (.ro c):=by rw [Gd hj,es]
   obtain ⟨b,q,r⟩:=R.ro j c er;rw [es] at w';refine ⟨b,(w' trivial).trans q,r.aR.pr pF fSub (fun b z=>?_) fun b o z n=>S.cB b o z fun y=>n (.inl (iaSub b y))⟩;rcases z with z | z
   ·exact iaEnd b z
   ·exact .inl (z▸⟨i,mi,s⟩)
  have inoNe:∀ (j:Nat) (c:PyData),env'[j]?=some (.ino c)->σ'[j]?≠some (some (.ref a)):=fun j c e' q=>by
   have n:i≠j:=fun z=>by subst z;rw [he] at e';cases e'
   have hj:j < e1.length:=by
    have:=(Gh.mp e').1;rw [k.1,Ha] at this;exact this
   have e0:(e1.set i (.ro d))[j]?=some e1[j]:=by rw [Gk n];exact Gd hj
   obtain ⟨s',h',v',w'⟩:=k.2 j _ e0;rw [e'] at h';cases h';have es:∃ c',e1[j]=.ino c':=by
    cases hh:e1[j] with
    | ino c'=>exact ⟨c',rfl⟩
    | ro c'=>rw [hh] at v';cases v'
    | un=>rw [hh] at v';exact absurd rfl (v'.1 c)
    | dat _=>rw [hh] at v';exact absurd rfl (v'.1 c)
    | own _=>rw [hh] at v';exact absurd rfl (v'.1 c)
   obtain ⟨c',es⟩:=es;have er:e1[j]?=some (.ino c'):=by rw [Gd hj,es]
   rw [es] at w';rw [w' trivial] at q;exact n (R.sep i j a mi ⟨c',.inr er⟩ s q)
  have Sf:Rel K (fun b=>F0 b\/b=a) H1 (IA e1 σ) (env'.set i .un) σ' H':=by
   have:=S.forget i (some (.ref a));rw [set_same hs] at this;exact this.Cb iaSub
  have hu':(env'.set i .un)[i]?=some .un:=GC hi';have eFe:FF (fun b=>F0 b\/b=a) (env'.set i .un) σ'=FF (fun b=>F0 b\/b=a) env' σ':=by
   funext b;apply propext;constructor
   ·rintro (h | ⟨j,c,e',q⟩)
    ·exact .inl h
    ·rcases get_set e' with ⟨_,z⟩ | ⟨n,e'⟩
     ·cases z
     ·exact .inr ⟨j,c,e',q⟩
   ·rintro (h | ⟨j,c,e',q⟩)
    ·exact .inl h
    ·have n:i≠j:=fun z=>by subst z;rw [he] at e';cases e'
     exact .inr ⟨j,c,by rw [Gk n];exact e',q⟩
  have iaE:∀ b,IA (env'.set i .un) σ' b->IA env' σ' b:=by
   rintro b ⟨j,⟨c,m⟩,q⟩;refine ⟨j,⟨c,?_⟩,q⟩;rcases m with m | m
   ·rcases get_set m with ⟨_,z⟩ | ⟨n,m⟩
    ·cases z
    ·exact .inl m
   ·rcases get_set m with ⟨_,z⟩ | ⟨n,m⟩
    ·cases z
    ·exact .inr m
  have kEnd:∀ t:Sl,Evs (e1[i]) t->KpS e1 σ (env'.set i t) σ':=fun t ht=>by
   refine ⟨by rw [Ha,k.1,Ha],fun j s0 e0=>?_⟩;by_cases z:i=j
   ·subst z;rw [Gd hi] at e0;cases e0;exact ⟨t,GC hi',ht,fun _=>hs.trans s.symm⟩
   ·obtain ⟨s',h',v',w'⟩:=k.2 j s0 (by rw [Gk z];exact e0);exact ⟨s',by rw [Gk z];exact h',v',w'⟩
  rcases e with e | e
  ·have eu:ao e1 (some i) env'=env'.set i (.own d):=by simp only [ao];rw [e,he]
   obtain ⟨a2,s2,nF,_⟩:=R.own i d e;rw [s] at s2;cases s2;have nFF:¬FF F0 (env'.set i .un) σ' a:=by
    rintro (h | ⟨j,c,e',q⟩)
    ·exact nF h
    ·obtain ⟨b',q',n',_⟩:=Sf.own j c e';rw [q] at q';cases q';exact n' (.inr rfl)
   have rv:cZ K F0 H1 (IA e1 σ) (env'.set i .un) σ' H' (.frs d) (.ref a):=by
    refine ⟨a,rfl,Sf,?_,.inr ⟨i,mi,s⟩,nFF,fun j c e' q=>?_,fun j c e'=>?_⟩
    ·rw [<- d6,eFe];exact tA
    ·rcases get_set e' with ⟨_,z⟩ | ⟨n,e'⟩
     ·cases z
     ·exact inoNe j c e' q
    ·rcases get_set e' with ⟨_,z⟩ | ⟨n,e'⟩
     ·cases z
     ·obtain ⟨b,q,r⟩:=roOld j c e' n;refine ⟨b,q,?_⟩;rw [<- d6,eFe];exact r.pr Pr.refl (fun _ z=>z) (fun b z=>z.imp (iaE b) id) fun _ _ z _=>z
   have Rn:=Rel.EI hu' rv;rw [HZ,set_same hs] at Rn;rw [eu];refine ⟨R.aZ Rn,kEnd _ ?_,?_⟩
   ·have:e1[i]=.own d:=by have:=Gd hi;rw [e] at this;exact (Hr this).symm
    rw [this];exact ⟨fun _=>nofun,fun _=>nofun⟩
   ·rw [<- eFe,d6];funext b;apply propext;constructor
    ·rintro (h | ⟨j,c,e',q⟩)
     ·exact .inl (.inl h)
     ·rcases get_set e' with ⟨z,_⟩ | ⟨n,e'⟩
      ·subst z;rw [hs] at q;cases q;exact .inr rfl
      ·exact .inl (.inr ⟨j,c,by rw [Gk n];exact e',q⟩)
    ·rintro ((h | ⟨j,c,e',q⟩) | rfl)
     ·exact .inl h
     ·rcases get_set e' with ⟨_,z⟩ | ⟨n,e'⟩
      ·cases z
      ·exact .inr ⟨j,c,by rw [Gk n];exact e',q⟩
     ·exact .inr ⟨i,d,GC hi',hs⟩
  ·have eu:ao e1 (some i) env'=env'.set i (.ino d):=by simp only [ao];rw [e,he]
   obtain ⟨a2,s2,f2,i2,_⟩:=R.ino i d e;rw [s] at s2;cases s2;have Sf2:Rel K F0 H1 (IA e1 σ) (env'.set i .un) σ' H':=Sf.eqF fun b=>⟨fun z=>z.elim id fun z=>z▸f2,.inl⟩;have eF0:FF F0 (env'.set i .un) σ'=FF (fun b=>F0 b\/b=a) env' σ':=by
    rw [<- eFe];have:(fun b=>F0 b\/b=a)=F0:=funext fun b=>propext ⟨fun z=>z.elim id fun z=>z▸f2,.inl⟩;rw [this]
   have Rn:=Sf2.Fj (d:=d) hu' hs (by rw [eF0];exact tA) f2 ⟨i,mi,s⟩ (fun j m q=>?_) (fun j c e'=>?_)
   ·rw [HZ] at Rn;rw [eu];refine ⟨R.aZ Rn,kEnd _ ?_,?_⟩
    ·have:e1[i]=.ino d:=by have:=Gd hi;rw [e] at this;exact (Hr this).symm
     rw [this];exact ⟨d,rfl⟩
    ·rw [<- eF0];have:=iA (F0:=F0) (σ:=σ') (s:=.ino d) (x:=some (.ref a)) hu' (fun _=>nofun)
     rwa [set_same hs,HZ] at this
   ·obtain ⟨c,m | m⟩:=m
    ·obtain ⟨b',q',n',_⟩:=Sf.own j c m;rw [q] at q';cases q';exact n' (.inr rfl)
    ·rcases get_set m with ⟨_,z⟩ | ⟨n,m⟩
     ·cases z
     ·exact inoNe j c m q
   ·rcases get_set e' with ⟨_,z⟩ | ⟨n,e'⟩
    ·cases z
    ·obtain ⟨b,q,r⟩:=roOld j c e' n;refine ⟨b,q,?_⟩;rw [eF0];exact r.pr Pr.refl (fun _ z=>z) (fun b z=>z.imp (iaE b) id) fun _ _ z _=>z
theorem Lk.of (R:Rel K F0 H₀ I e1 σ H1) (lock:Option Nat):∃ F1,Lk K F0 H₀ I e1 σ H1 lock F1/\(lkd e1 lock=false->F1=F0/\bg e1 lock=e1/\∀ env',ao e1 lock env'=env'):=by
 cases lock with
 | none=>exact ⟨F0,Lk.pX R rfl (fun _=>rfl) (fun i z=>by cases z),fun _=>⟨rfl,rfl,fun _=>rfl⟩⟩
 | some i =>
  cases e:e1[i]? with
  | none =>
   have h1:bg e1 (some i)=e1:=by simp only [bg];rw [e]
   have h2:∀ env',ao e1 (some i) env'=env':=fun env'=>by simp only [ao];rw [e]
   exact ⟨F0,Lk.pX R h1 h2 (fun j z m=>by cases z;obtain ⟨d,m | m⟩:=m <;> (rw [e] at m;cases m)),fun _=>⟨rfl,h1,h2⟩⟩
  | some s =>
   cases s with
   | own d =>
    obtain ⟨a,q,_⟩:=R.own i d e;exact ⟨_,Lk.yk R (.inl e) q,fun z=>by simp only [lkd] at z;rw [e] at z;cases z⟩
   | ino d =>
    obtain ⟨a,q,_⟩:=R.ino i d e;exact ⟨_,Lk.yk R (.inr e) q,fun z=>by simp only [lkd] at z;rw [e] at z;cases z⟩
   | un =>
    have h1:bg e1 (some i)=e1:=by simp only [bg];rw [e]
    have h2:∀ env',ao e1 (some i) env'=env':=fun env'=>by simp only [ao];rw [e]
    exact ⟨F0,Lk.pX R h1 h2 (fun j z m=>by cases z;obtain ⟨d,m | m⟩:=m <;> (rw [e] at m;cases m)),fun _=>⟨rfl,h1,h2⟩⟩
   | dat d =>
    have h1:bg e1 (some i)=e1:=by simp only [bg];rw [e]
    have h2:∀ env',ao e1 (some i) env'=env':=fun env'=>by simp only [ao];rw [e]
    exact ⟨F0,Lk.pX R h1 h2 (fun j z m=>by cases z;obtain ⟨d,m | m⟩:=m <;> (rw [e] at m;cases m)),fun _=>⟨rfl,h1,h2⟩⟩
   | ro d =>
    have h1:bg e1 (some i)=e1:=by simp only [bg];rw [e]
    have h2:∀ env',ao e1 (some i) env'=env':=fun env'=>by simp only [ao];rw [e]
    exact ⟨F0,Lk.pX R h1 h2 (fun j z m=>by cases z;obtain ⟨d,m | m⟩:=m <;> (rw [e] at m;cases m)),fun _=>⟨rfl,h1,h2⟩⟩
theorem oR {b:PyData->En->Option Out} {ds:List PyData} {out:Out} {J:It} {F1 I1:Addr->Prop} {el:En} {g:TG} {tb:TS} {D:Ends} (R:Rel K F1 H1 I1 el σ H1) (hI:I1=IA el σ) (hit:sC K (FF F1 el σ) I1 H1 J ds) (h:forL b ds el=some out)
  (turn:∀ d o env' σ' H' x,b d env'=some o->Rel K F1 H1 I1 env' σ' H'->KpS el σ env' σ'->Dm K (FF F1 env' σ') H' d x->∀ D':Ends,jQ K F1 H1 I1 env' σ' D' o->g x σ' H' fun σ2 H2=>tb D' σ2 H2)
  (q:jQ K F1 H1 I1 el σ D out) :
  ∃ W:Nat->Nat->St->Hp->Prop,(∃ m,W 0 m σ H1)/\∀ i m σ H,W i m σ H ->
   (J.stop i H/\D.nx σ H)\/(J.go i H/\∃ N:St->Hp->Prop,(∀ σ' H',N σ' H'->∃ m',m' < m/\W (i+1) m' σ' H')/\∀ x H',J.yld i H x H'->g x σ H' fun σ2 H2=>tb { D with nx:=N,ct:=N,bk:=D.nx } σ2 H2):=by
 subst hI;obtain ⟨hvl,hturn⟩:=hit;refine ⟨fun i m σ' H'=>m=ds.length - i/\i<=ds.length/\∃ env',forL b (ds.drop i) env'=some out/\Rel K F1 H1 (IA el σ) env' σ' H'/\KpS el σ env' σ',⟨ds.length,rfl,Hn _,el,h,R,KpS.refl _ _⟩,?_⟩;rintro i m σ' H' ⟨rfl,hi,env',hf,R',k'⟩;have hkept:∀ b o,H1 b=some o->¬IA el σ b->H' b=some o:=R'.cB;by_cases hlt:i < ds.length
 ·right;obtain ⟨go,yld⟩:=(hturn H' hkept i).1 (by omega);refine ⟨go,fun σ3 H3=>(ds.length - (i+1))=ds.length - (i+1)/\i+1<=ds.length/\∃ env',forL b (ds.drop (i+1)) env'=some out/\Rel K F1 H1 (IA el σ) env' σ3 H3/\KpS el σ env' σ3,fun σ3 H3 z=>⟨ds.length - (i+1),by omega,z⟩,fun x H'' hx=>?_⟩;obtain ⟨d,hd,hy9⟩:=yld x H'' hx;have fSub:∀ b,FF F1 env' σ' b->(FF F1 el σ b\/H1 b=none):=fun b z=>by
   rcases z with z | ⟨j,c,e',s'⟩
   ·exact .inl (.inl z)
   ·obtain ⟨b',q',_,w,_⟩:=R'.own j c e';rw [s'] at q';cases q';exact w.elim .inr fun w=>.inl (R.ia w)
  obtain ⟨sm,hdx'⟩:=hy9.dm (F2:=FF F1 env' σ') fun d v h=>h.aR.pr ((R.mH hkept).EU fun b z=>.inl z) fSub;have R':=R'.same sm;have ed:ds.drop i=d :: ds.drop (i+1):=by
   rw [HF hlt];obtain ⟨_,z⟩:=Gh.mp hd;rw [z]
  rw [ed] at hf;unfold forL at hf;split at hf
  ·rename_i e hb;exact turn d _ env' σ' H'' x hb R' k' hdx' _ fun σ3 H3 R3 k3=>⟨rfl,by omega,e,hf,R3,k'.trans k3⟩
  ·rename_i e hb;exact turn d _ env' σ' H'' x hb R' k' hdx' _ fun σ3 H3 R3 k3=>⟨rfl,by omega,e,hf,R3,k'.trans k3⟩
  ·rename_i e hb;cases hf;exact turn d _ env' σ' H'' x hb R' k' hdx' _ fun σ3 H3 R3 k3=>q σ3 H3 R3 (k'.trans k3)
  ·rename_i r e hb;cases hf;exact turn d _ env' σ' H'' x hb R' k' hdx' _ fun v σ3 H3 R3 k3 r3=>q v σ3 H3 R3 (k'.trans k3) r3
  ·cases hf
 ·left;have e:i=ds.length:=by omega
  subst e;rw [List.drop_length] at hf;unfold forL at hf;cases hf;exact ⟨(hturn H' hkept _).2 (by omega),q σ' H' R' k'⟩
theorem cZ.unl {rv:RV} {v:V} {F1:Addr->Prop} {e2:En} (h:cZ K F1 H₀ I env σ H rv v) (hn:∀ d,rv≠.frs d) (eF:FF F0 e2 σ=FF F1 env σ) {H₁:Hp} {I₁:Addr->Prop}:cZ K F0 H₁ I₁ e2 σ H rv v:=by
 cases rv with
 | dat d=>show Dm K _ H d v;rw [eF];exact h
 | bor i=>exact h
 | frs d=>exact absurd rfl (hn d)
theorem cZ.CQ {rv:RV} {v:V} (h:cZ K F0 H₀ I env σ H rv v):cZ K F0 H₀ I env σ H (rv.soft true) v:=by
 cases rv with
 | dat d=>exact h
 | bor i=>exact h
 | frs d=>exact h.av
theorem cZ.aZ {rv:RV} {v:V} (R:Rel K F0 H₀ I env σ H) (h:cZ K F0 H (IA env σ) env' σ' H' rv v):cZ K F0 H₀ I env' σ' H' rv v:=by
 cases rv with
 | dat d=>exact h
 | bor i=>exact h
 | frs d =>
  obtain ⟨a,ea,S,t,w,nF,hi,hr⟩:=h;have S0:=R.aZ (S.less hi);refine ⟨a,ea,⟨S.len,S.dat,fun i c e=>?_,fun i c e=>?_,S.ro,S.sep,S.dom,S0.cB⟩,t,R.oi w,nF,hi,hr⟩
  ·obtain ⟨b,s,n,w',t'⟩:=S.own i c e;exact ⟨b,s,n,R.oi w',t'⟩
  ·obtain ⟨b,s,n,w',t'⟩:=S.ino i c e;obtain ⟨b2,s2,_,i2,_⟩:=S0.ino i c e;rw [s] at s2;cases s2;exact ⟨b,s,n,i2,t'⟩
theorem Lk.out {lock:Option Nat} {F1:Addr->Prop} {D:Ends} {out:Out} (R1:Rel K F0 H₀ I e1 σ H1) (L:Lk K F0 H₀ I e1 σ H1 lock F1) (hno:lkd e1 lock=false->F1=F0/\bg e1 lock=e1/\∀ env',ao e1 lock env'=env')
  (q:jQ K F0 H₀ I e1 σ D (out.map (lkd e1 lock) (ao e1 lock))):jQ K F1 H1 (IA (bg e1 lock) σ) (bg e1 lock) σ D out:=by
 cases out with
 | nx e=>exact fun σ' H' R' k'=>let ⟨A,B,_⟩:=L.un e σ' H' R' k';q σ' H' A B
 | bk e=>exact fun σ' H' R' k'=>let ⟨A,B,_⟩:=L.un e σ' H' R' k';q σ' H' A B
 | ct e=>exact fun σ' H' R' k'=>let ⟨A,B,_⟩:=L.un e σ' H' R' k';q σ' H' A B
 | rt rv e =>
  intro v σ' H' R' k' r;obtain ⟨A,B,C⟩:=L.un e σ' H' R' k';refine q v σ' H' A B ?_;cases hl:lkd e1 lock with
  | true=>exact r.CQ.unl (fun d z=>by cases rv <;> cases z) C
  | false =>
   obtain ⟨rfl,h1,h2⟩:=hno hl;rw [h1] at r;rw [h2];have:rv.soft false=rv:=by cases rv <;> rfl
   rw [this];exact r.aZ R1
theorem DT {i:Nat} {it:XI} {b:XS} (ii:SI K ga gd it) (ib:SS K ga gd b):SS K ga gd (.fr i it b):=by
 intro env out h F0 H₀ I σ H D R q;simp only [dS] at h;split at h
 ·rename_i ds lock e1 h1;cases ho:forL (fb i (dS gd b)) ds (bg e1 lock) with
  | none=>rw [ho] at h;cases h
  | some o =>
   rw [ho] at h;cases h;refine ii _ _ _ _ h1 F0 H₀ I σ H _ R fun J H1 R1 k1 _ hit=>?_;obtain ⟨F1,L,hno⟩:=Lk.of R1 lock;have Rb:=L.rel.rebase;refine oR Rb rfl ?_ ho ?_ (L.out R1 hno (q.from k1.s))
   ·rw [L.ff];obtain ⟨a2,a3⟩:=hit;exact ⟨a2,fun H' hk=>a3 H' fun b o e n=>hk b o e fun z=>n (L.ia b z)⟩
   ·intro d o env' σ' H' x hb R' k' hd D' hD;unfold fb at hb;split at hb
    ·rename_i hf;obtain ⟨R2,k2⟩:=R'.Co hf hd;exact ib _ _ hb _ _ _ _ H' D' R2 (hD.from k2)
    ·cases hb
 ·cases h
theorem zR {is:List Nat} {it:XI} {b:XS} (ii:SI K ga gd it) (ib:SS K ga gd b):SS K ga gd (.frT is it b):=by
 intro env out h F0 H₀ I σ H D R q;simp only [dS] at h;split at h
 ·rename_i ds lock e1 h1
  ·obtain ⟨o,ho,e0⟩:=GW.mp h;subst e0;refine ii _ _ _ _ h1 F0 H₀ I σ H _ R fun J H1 R1 k1 _ hit=>?_;obtain ⟨F1,L,hno⟩:=Lk.of R1 lock;have Rb:=L.rel.rebase;refine oR Rb rfl ?_ ho ?_ (L.out R1 hno (q.from k1.s))
   ·rw [L.ff];obtain ⟨a2,a3⟩:=hit;exact ⟨a2,fun H' hk=>a3 H' fun b o e n=>hk b o e fun z=>n (L.ia b z)⟩
   ·intro d o env' σ' H' x hb R' k' hd D' hD;unfold gP at hb;split at hb
    ·rename_i xs;split at hb
     ·rename_i e2 hset;obtain ⟨a,vs,rfl,l,z,r⟩:=hd;have hlen:∀ {is:List Nat} {ds:List PyData} {e e':En},d7 e is ds=some e'->is.length=ds.length:=by
       intro is;induction is with
       | nil=>intro ds e e' h;cases ds with
        | nil=>rfl
        | cons _ _=>cases h
       | cons i is ih=>intro ds e e' h;cases ds with
        | nil=>cases h
        | cons d ds =>
         unfold d7 at h;split at h
         ·rw [GH,GH,ih h]
         ·cases h
      exact ⟨a,vs,rfl,l,by rw [r.len,hlen hset],kC hset R' r fun σ2 R2 k2=>ib _ _ hb _ _ _ _ H' D' R2 (hD.from k2)⟩
     ·cases hb
    ·cases hb
 ·cases h
theorem sS (hg:∀ g d,gd[g]?=some d->∀ F H,Dm K F H d (ga g)):∀ s:XS,SS K ga gd s
 | .skip=>fun env out h F0 H₀ I σ H D R q=>by cases h;exact q σ H R (KpS.refl _ _)
 | .seq a b=>xV (sS hg a) (sS hg b)
 | .a6 i e=>vd (sE hg e) | .ny i e=>wQ (sE hg e) | .yP is e=>wu (sE hg e) | .drop e=>vf (sE hg e) | .ret e=>y9 (sE hg e)
 | .Bv=>fun env out h F0 H₀ I σ H D R q=>by cases h;exact q .non σ H R (KpS.refl _ _) rfl
 | .ifs c a b=>y8 (sT hg c) (sS hg a) (sS hg b)
 | .fr i it b=>DT (sI hg it) (sS hg b) | .frT is it b=>zR (sI hg it) (sS hg b) | .wh n c b=>BP (sT hg c) (sS hg b)
 | .brk=>fun env out h F0 H₀ I σ H D R q=>by cases h;exact q σ H R (KpS.refl _ _)
 | .cnt=>fun env out h F0 H₀ I σ H D R q=>by cases h;exact q σ H R (KpS.refl _ _)
 | .nev=>fun env out h F0 H₀ I σ H D R q=>by cases h
 | .sto m i k e=>yc (sE hg k) (sE hg e)
end
open PySem
section
variable {K:Fg} {F F' G I I' F0:Addr->Prop} {H H' H₀ H1:Hp} {env env' e1:En} {σ σ':St} {ga:Nat->V} {gd:List PyData}
theorem bZ:∀ {ms:List PM} {ds:List PyData} {n:Nat},ds.length=ms.length->ms.length<=n->(ae ms ds n).length=n
 | [],[],n,_,_=>by simp [ae]
 | [],_ :: _,n,h,_=>by cases h
 | _ :: _,[],n,h,_=>by cases h
 | m :: ms,d :: ds,n,h,hn=>by
  have ih:=bZ (ms:=ms) (ds:=ds) (n:=n - 1) (by simpa using h) (by simp at hn;omega);simp at hn;cases m <;> (simp only [ae,GH,ih];omega)
theorem bp.len:∀ {ms:List PM} {ds:List PyData} {vs:List V} {is:List Addr},bp K G I H ms ds vs is->ds.length=ms.length/\vs.length=ms.length
 | [],[],[],_,_=>⟨rfl,rfl⟩
 | [],[],_ :: _,_,h=>by exact absurd h id
 | [],_ :: _,_,_,h=>by exact absurd h id
 | m :: ms,[],_,_,h=>by cases m <;> exact absurd h id
 | m :: ms,d :: ds,[],_,h=>by cases m <;> exact absurd h id
 | .dat :: ms,d :: ds,v :: vs,is,h=>by obtain ⟨a,b⟩:=bp.len h.2;exact ⟨by simp [a],by simp [b]⟩
 | .bor :: ms,d :: ds,v :: vs,is,h=>by obtain ⟨a,b⟩:=bp.len h.2;exact ⟨by simp [a],by simp [b]⟩
 | .ino :: ms,d :: ds,v :: vs,is,h=>by obtain ⟨_,_,_,_,_,_,_,h⟩:=h;obtain ⟨a,b⟩:=bp.len h;exact ⟨by simp [a],by simp [b]⟩
def At (K:Fg) (G I:Addr->Prop) (H:Hp) (is:List Addr) (s:Sl) (x:Option V):Prop:=match s with
 | .un=>True
 | .dat d=>∃ v,x=some v/\Dm K G H d v
 | .ino d=>∃ a,x=some (.ref a)/\a∈is/\G a/\Top K G H d a
 | .ro d=>∃ a,x=some (.ref a)/\d3 K G I H d a
 | .own _=>False
theorem At.more {is is':List Addr} {s:Sl} {x:Option V} (h:At K G I H is s x) (q:∀ a∈is,a∈is'):At K G I H is' s x:=by
 cases s with
 | ino d=>obtain ⟨a,e,m,r⟩:=h;exact ⟨a,e,q a m,r⟩
 | _=>exact h
theorem bC:∀ {ms:List PM} {ds:List PyData} {vs:List V} {is:List Addr} {n:Nat} {tl:St},bp K G I H ms ds vs is->∀ {i:Nat} {s:Sl},(ae ms ds n)[i]?=some s->∀ {x:Option V},(vs.map some++tl)[i]?=some x->At K G I H is s x
 | [],[],[],is,n,tl,h,i,s,e,x,_=>by
  simp only [ae,List.getElem?_replicate] at e;split at e
  ·cases e;trivial
  ·cases e
 | [],[],_ :: _,_,_,_,h,_,_,_,_,_=>by exact absurd h id
 | [],_ :: _,_,_,_,_,h,_,_,_,_,_=>by exact absurd h id
 | m :: ms,[],_,_,_,_,h,_,_,_,_,_=>by cases m <;> exact absurd h id
 | m :: ms,d :: ds,[],_,_,_,h,_,_,_,_,_=>by cases m <;> exact absurd h id
 | .dat :: ms,d :: ds,v :: vs,is,n,tl,h,0,s,e,x,ex=>by
  simp [ae] at e ex;subst e ex;exact ⟨v,rfl,h.1⟩
 | .dat :: ms,d :: ds,v :: vs,is,n,tl,h,i+1,s,e,x,ex=>by
  simp [ae] at e;exact bC h.2 e (by simpa using ex)
 | .bor :: ms,d :: ds,v :: vs,is,n,tl,h,0,s,e,x,ex=>by
  simp [ae] at e ex;subst e ex;have h1:wH K G I H d v:=h.1;cases d <;> first | exact h1 | exact ⟨v,rfl,h1⟩ | (obtain ⟨a,rfl,r⟩:=h1;exact ⟨a,rfl,r⟩)
 | .bor :: ms,d :: ds,v :: vs,is,n,tl,h,i+1,s,e,x,ex=>by
  simp [ae] at e;exact bC h.2 e (by simpa using ex)
 | .ino :: ms,d :: ds,v :: vs,is,n,tl,h,0,s,e,x,ex=>by
  simp [ae] at e ex;subst e ex;obtain ⟨a,r,rfl,rfl,g,t,_,_⟩:=h;exact ⟨a,rfl,Gm,g,t⟩
 | .ino :: ms,d :: ds,v :: vs,is,n,tl,h,i+1,s,e,x,ex=>by
  simp [ae] at e;obtain ⟨a,r,rfl,rfl,g,t,_,h⟩:=h;exact (bC h e (by simpa using ex)).more fun b hb=>Gp _ hb
theorem iw:∀ {ms:List PM} {ds:List PyData} {vs:List V} {is:List Addr} {n:Nat} {tl:St},bp K G I H ms ds vs is->∀ {i j:Nat} {c c':PyData} {a:Addr},(ae ms ds n)[i]?=some (.ino c)->(ae ms ds n)[j]?=some (.ino c') ->
  (vs.map some++tl)[i]?=some (some (.ref a))->(vs.map some++tl)[j]?=some (some (.ref a))->i=j
 | [],[],[],is,n,tl,h,i,j,c,c',a,e,_,_,_=>by
  simp only [ae,List.getElem?_replicate] at e;split at e <;> cases e
 | [],[],_ :: _,_,_,_,h,_,_,_,_,_,_,_,_,_=>by exact absurd h id
 | [],_ :: _,_,_,_,_,h,_,_,_,_,_,_,_,_,_=>by exact absurd h id
 | m :: ms,[],_,_,_,_,h,_,_,_,_,_,_,_,_,_=>by cases m <;> exact absurd h id
 | m :: ms,d :: ds,[],_,_,_,h,_,_,_,_,_,_,_,_,_=>by cases m <;> exact absurd h id
 | m :: ms,d :: ds,v :: vs,is,n,tl,h,0,0,c,c',a,e,e',s,s'=>rfl
 | m :: ms,d :: ds,v :: vs,is,n,tl,h,i+1,j+1,c,c',a,e,e',s,s'=>by
  have hr:∃ r,bp K G I H ms ds vs r:=by
   cases m with
   | dat=>exact ⟨is,h.2⟩
   | bor=>exact ⟨is,h.2⟩
   | ino=>obtain ⟨_,r,_,_,_,_,_,h⟩:=h;exact ⟨r,h⟩
  obtain ⟨r,hr⟩:=hr;have:i=j:=iw (n:=n - 1) (tl:=tl) hr (by cases m <;> simpa [ae] using e) (by cases m <;> simpa [ae] using e') (by simpa using s) (by simpa using s');rw [this]
 | m :: ms,d :: ds,v :: vs,is,n,tl,h,0,j+1,c,c',a,e,e',s,s'=>by
  cases m with
  | dat=>simp [ae] at e
  | bor=>cases d <;> simp [ae,wj] at e
  | ino =>
   obtain ⟨b,r,rfl,rfl,g,t,nr,h⟩:=h;simp [ae] at e' s;subst s;obtain ⟨a',ea,m',_⟩:=bC (tl:=tl) h e' (by simpa using s');cases ea;exact absurd m' nr
 | m :: ms,d :: ds,v :: vs,is,n,tl,h,i+1,0,c,c',a,e,e',s,s'=>by
  cases m with
  | dat=>simp [ae] at e'
  | bor=>cases d <;> simp [ae,wj] at e'
  | ino =>
   obtain ⟨b,r,rfl,rfl,g,t,nr,h⟩:=h;simp [ae] at e s';subst s';obtain ⟨a',ea,m',_⟩:=bC (tl:=tl) h e (by simpa using s);cases ea;exact absurd m' nr
theorem eZ {G':Addr->Prop}:∀ {ms:List PM} {ds:List PyData} {vs:List V} {is:List Addr} {n:Nat} {tl:St} {env':En} {σ':St} {outs:List PyData},bp K G I H ms ds vs is->ms.length<=env'.length ->
  (∀ (i:Nat) (c:PyData),(ae ms ds n)[i]?=some (.ino c)->∃ c',env'[i]?=some (.ino c')/\σ'[i]?=(vs.map some++tl)[i]?)->(∀ (i:Nat) (c:PyData) (a:Addr),env'[i]?=some (.ino c)->σ'[i]?=some (some (.ref a))->Top K G' H' c a) ->
  gF ms env'=some outs->gH K G' H' outs is
 | [],[],[],is,n,tl,env',σ',outs,h,_,_,_,e=>by
  rw [show is=[] from h];cases env' <;> (simp only [gF] at e;cases e;trivial)
 | [],[],_ :: _,_,_,_,_,_,_,h,_,_,_,_=>by exact absurd h id
 | [],_ :: _,_,_,_,_,_,_,_,h,_,_,_,_=>by exact absurd h id
 | m :: ms,[],_,_,_,_,_,_,_,h,_,_,_,_=>by cases m <;> exact absurd h id
 | m :: ms,d :: ds,[],_,_,_,_,_,_,h,_,_,_,_=>by cases m <;> exact absurd h id
 | m :: ms,d :: ds,v :: vs,is,n,tl,[],σ',outs,h,hl,h1,h2,e=>by simp at hl
 | m :: ms,d :: ds,v :: vs,is,n,tl,s :: es,σ',outs,h,hl,h1,h2,e=>by
  have hl':ms.length<=es.length:=by simpa using hl
  have t1:∀ (i:Nat) (c:PyData),(ae ms ds (n - 1))[i]?=some (.ino c)->∃ c',es[i]?=some (.ino c')/\σ'.tail[i]?=(vs.map some++tl)[i]?:=fun i c z=>by
   obtain ⟨c',e',q⟩:=h1 (i+1) c (by cases m <;> simpa [ae] using z);exact ⟨c',by simpa using e',by simpa using q⟩
  have t2:∀ (i:Nat) (c:PyData) (a:Addr),es[i]?=some (.ino c)->σ'.tail[i]?=some (some (.ref a))->Top K G' H' c a:=fun i c a z q=>h2 (i+1) c a (by simpa using z) (by simpa using q);cases m with
  | dat=>exact eZ h.2 hl' t1 t2 (by simpa [gF] using e)
  | bor=>exact eZ h.2 hl' t1 t2 (by simpa [gF] using e)
  | ino =>
   obtain ⟨b,r,rfl,rfl,g,t,nr,h⟩:=h;obtain ⟨c',e',q⟩:=h1 0 d (by simp [ae]);simp at e' q;subst e';simp only [gF] at e;split at e
   ·rename_i os ho;cases e;exact ⟨h2 0 c' b (by simp) (by simpa using q),eZ h hl' t1 t2 ho⟩
   ·cases e
theorem wz (hg:∀ g d,gd[g]?=some d->∀ F H,Dm K F H d (ga g)) {ms:List PM} {N:List Str} {b:XS} {vs:List V} {H:Hp} {Q:VK} {E:XK} (h:fK (gS gd ms N.length b) K vs H Q E) (hn:ms.length<=N.length) :
  rS K ga b { nx:=fun _ H'=>Q .non H',rt:=Q } (start N vs) H:=by
 obtain ⟨G,ds,is,pr,outs,hF,ha,hd,post⟩:=h;have ha:bp K G (·∈is) H ms ds vs is:=ha;obtain ⟨hl1,hl2⟩:=ha.len;have hstart:start N vs=vs.map some++List.replicate (N.length - vs.length) none:=rfl;have no:noOwn (ae ms ds N.length):=fun i d e=>by
  have hi:i < (ae ms ds N.length).length:=(Gh.mp e).1;rw [bZ hl1 hn] at hi;have hx:(vs.map some++List.replicate (N.length - vs.length) none)[i]?=some ((vs.map some++List.replicate (N.length - vs.length) none)[i]'(by rw [Gf,Gg,JH];omega)):=Gd _;exact (bC ha e hx:False)
 have at':∀ {i:Nat} {s:Sl},(ae ms ds N.length)[i]?=some s->∃ x,(start N vs)[i]?=some x/\At K G (·∈is) H is s x:=fun {i s} e=>by
  have hi:i < (ae ms ds N.length).length:=(Gh.mp e).1;rw [bZ hl1 hn] at hi;have hx:(start N vs)[i]?=some ((start N vs)[i]'(by rw [hstart,Gf,Gg,JH];omega)):=Gd _;exact ⟨_,hx,bC ha e hx⟩
 have eF:FF G (ae ms ds N.length) (start N vs)=G:=cg no;have muI:∀ i,mu (ae ms ds N.length) i->∃ c,(ae ms ds N.length)[i]?=some (.ino c):=fun i ⟨c,m⟩=>m.elim (fun z=>absurd z (no i c)) fun z=>⟨c,z⟩;have R:Rel K G H (·∈is) (ae ms ds N.length) (start N vs) H:=by
  refine ⟨by rw [bZ hl1 hn,hstart,Gf,Gg,JH];omega,fun i d e=>?_,fun i d e=>absurd e (no i d),fun i d e=>?_,fun i d e=>?_,fun i j a h1 h2 h3 h4=>?_,hd,fun _ _ h _=>h⟩
  ·rw [eF];obtain ⟨x,hx,v,rfl,r⟩:=at' e;exact ⟨v,hx,r⟩
  ·rw [eF];obtain ⟨x,hx,a,rfl,m,g,t⟩:=at' e;exact ⟨a,hx,g,m,t⟩
  ·rw [eF];obtain ⟨x,hx,a,rfl,r⟩:=at' e;refine ⟨a,hx,r.pr Pr.refl (fun _ z=>z) (fun b hb=>?_) fun _ _ z _=>z⟩;obtain ⟨j,m,s⟩:=hb;obtain ⟨c,m⟩:=muI j m;obtain ⟨x,hx,a,rfl,m,g,t⟩:=at' m;rw [s] at hx;cases hx;exact m
  ·obtain ⟨c,m1⟩:=muI i h1;obtain ⟨c',m2⟩:=muI j h2;exact iw ha m1 m2 h3 h4
 simp only [gS] at hF;rw [Gs hl1] at hF
 ·have inoK:∀ {env':En} {σ':St},KpS (ae ms ds N.length) (start N vs) env' σ'->∀ (i:Nat) (c:PyData),(ae ms ds N.length)[i]?=some (.ino c)->∃ c',env'[i]?=some (.ino c')/\σ'[i]?=(vs.map some++List.replicate (N.length - vs.length) none)[i]?:=fun {env' σ'} k i c e=>by
   obtain ⟨s',e',v,w⟩:=k.2 i _ e;obtain ⟨c',rfl⟩:=v;exact ⟨c',e',w trivial⟩
  have hlE:∀ {env':En} {σ':St},KpS (ae ms ds N.length) (start N vs) env' σ'->ms.length<=env'.length:=fun {env' σ'} k=>by rw [k.1,bZ hl1 hn];exact hn
  split at hF
  ·rename_i rv env' hS;split at hF
   ·rename_i pr' outs' hpr houts;cases hF;refine sS hg b _ _ hS G H (·∈is) _ H _ R fun v σ' H' R' k' r'=>?_;have mono:∀ b,G b->FF G env' σ' b:=fun b z=>.inl z;cases rv with
    | bor i=>cases hpr
    | dat d =>
     cases hpr
     exact post v H' (fun b o e n=>R'.cB b o e n) ⟨Dm.mono mono r',eZ ha (hlE k') (inoK k') (fun i c a e s=>by
      obtain ⟨a',s',_,_,t⟩:=R'.ino i c e;rw [s] at s';cases s'
      exact t.pr Pr.refl mono fun _ z=>z) houts⟩
    | frs d =>
     cases hpr;obtain ⟨a,rfl,Ra,t,w,nF,hino,_⟩:=r';have mono':∀ b,(G b\/b=a)->FF (fun b=>G b\/b=a) env' σ' b:=fun b z=>.inl z
     refine post _ H' (fun b o e n=>R'.cB b o e n) ⟨a,rfl,?_,t.pr Pr.refl (fun b z=>z.imp (mono b) id) (fun _ z=>z),eZ ha (hlE k') (inoK k') (fun i c a' e s=>by
      obtain ⟨a2,s',_,_,t'⟩:=Ra.ino i c e;rw [s] at s';cases s'
      exact t'.pr Pr.refl mono' fun _ z=>z) houts⟩
     rcases w with w | w
     ·exact w
     ·-- it would be one that was handed in to be changed
      exfalso;have key:∀ {ms:List PM} {ds:List PyData} {vs:List V} {is:List Addr} {I:Addr->Prop} {n:Nat} {tl:St},bp K G I H ms ds vs is->a∈is->∃ (i:Nat) (c:PyData),(ae ms ds n)[i]?=some (.ino c)/\(vs.map some++tl)[i]?=some (some (.ref a)):=by
       intro ms;induction ms with
       | nil =>
        intro ds vs is I n tl h m;cases ds with
        | cons _ _=>exact absurd h id
        | nil=>cases vs with
         | cons _ _=>exact absurd h id
         | nil=>rw [show is=[] from h] at m;cases m
       | cons p ms ih =>
        intro ds vs is I n tl h m;cases ds with
        | nil=>cases p <;> exact absurd h id
        | cons d ds =>
         cases vs with
         | nil=>cases p <;> exact absurd h id
         | cons v vs =>
          cases p with
          | dat=>obtain ⟨i,c,e,s⟩:=ih (n:=n - 1) (tl:=tl) h.2 m;exact ⟨i+1,c,by simpa [ae] using e,by simpa using s⟩
          | bor=>obtain ⟨i,c,e,s⟩:=ih (n:=n - 1) (tl:=tl) h.2 m;exact ⟨i+1,c,by simpa [ae] using e,by simpa using s⟩
          | ino =>
           obtain ⟨b,r,rfl,rfl,g,t,nr,h⟩:=h;rcases Gv.mp m with rfl | m
           ·exact ⟨0,d,by simp [ae],by simp⟩
           ·obtain ⟨i,c,e,s⟩:=ih (n:=n - 1) (tl:=tl) h m;exact ⟨i+1,c,by simpa [ae] using e,by simpa using s⟩
      obtain ⟨i,c,e,s⟩:=key (n:=N.length) (tl:=List.replicate (N.length - vs.length) none) ha w;obtain ⟨c',e',s'⟩:=inoK k' i c e;exact hino i c' e' (s'.trans s)
   ·cases hF
  ·rename_i env' hS;split at hF
   ·rename_i outs' houts;cases hF;refine sS hg b _ _ hS G H (·∈is) _ H _ R fun σ' H' R' k'=>?_;have mono:∀ b,G b->FF G env' σ' b:=fun b z=>.inl z
    exact post .non H' (fun b o e n=>R'.cB b o e n) ⟨rfl,eZ ha (hlE k') (inoK k') (fun i c a e s=>by
      obtain ⟨a',s',_,_,t⟩:=R'.ino i c e;rw [s] at s';cases s'
      exact t.pr Pr.refl mono fun _ z=>z) houts⟩
   ·cases hF
  ·cases hF
theorem tI {f:Fn} {vs:List V} {H:Hp} {Q:VK} {E:XK} (h:fK f K vs H Q E):vs.length=f.ms.length:=by
 obtain ⟨G,ds,is,pr,outs,_,ha,_⟩:=h;exact ha.len.2
end
open PySem PySem.Spec PyProof.Rows
noncomputable def Prm.two (r:Fg->R2) (f:PyData->PyData->Option PR) (ok:∀ (K:Fg) (F:Addr->Prop) (H:Hp) (x y:PyData) (u v:V) (pr:PR) (Q:VK),f x y=some pr->Vw K F H x u->Vw K F H y v->(∀ b,F b->H b≠none)->(∀ w H',ay H H'->ur K F H H' pr w->Q w H')->r K u v H Q):Prm where
 r:=fun K vs H Q=>match vs with | [u,v]=>r K u v H Q | _=>False
 f:=fun ds=>match ds with | [x,y]=>f x y | _=>none
 ok:=fun K F H ds vs pr Q hf hv hd q=>by
  match ds,hf with
  | [x,y],hf =>
   obtain ⟨u,r1,rfl,h1,v,r2,rfl,h2,rfl⟩:=hv;exact ok K F H x y u v pr Q hf h1 h2 hd q
noncomputable def Prm.one (r:Fg->V->Hp->VK->Prop) (f:PyData->Option PR) (ok:∀ (K:Fg) (F:Addr->Prop) (H:Hp) (x:PyData) (u:V) (pr:PR) (Q:VK),f x=some pr->Vw K F H x u->(∀ b,F b->H b≠none)->(∀ w H',ay H H'->ur K F H H' pr w->Q w H')->r K u H Q):Prm where
 r:=fun K vs H Q=>match vs with | [u]=>r K u H Q | _=>False
 f:=fun ds=>match ds with | [x]=>f x | _=>none
 ok:=fun K F H ds vs pr Q hf hv hd q=>by
  match ds,hf with
  | [x],hf =>
   obtain ⟨u,r1,rfl,h1,rfl⟩:=hv;exact ok K F H x u pr Q hf h1 hd q
section
variable {K:Fg} {F F':Addr->Prop} {H:Hp}
theorem vInt {i:Int} {v:V} (h:Vw K F H (.int i) v):v=.int i:=h
theorem vBl {b:Bool} {v:V} (h:Vw K F H (.bool b) v):v=.bl b:=h
theorem EH {v:V} (h:Vw K F H .none v):v=.non:=h
theorem vStr {x:Str} {v:V} (h:Vw K F H (.str x) v):v=.str x/\x.length<=sizeLine/\PyData.strOk x=true:=h
theorem ke {ds:List PyData} {v:V} (h:Vw K F H (.list ds) v):∃ a xs,v=.ref a/\SqL K H a xs/\xs.length<=sizeLine/\DmL K F H ds xs:=let ⟨a,e,xs,r⟩:=h;⟨a,xs,e,r⟩
theorem qS {ds:List PyData} {v:V} (h:Vw K F H (.tuple ds) v):∃ a xs,v=.ref a/\SqT K H a xs/\xs.length<=sizeLine/\DmL K F H ds xs:=h
theorem xo {p:Addr} {xs:List V} {ds:List PyData} (hp:H p=none) (hz:xs.length<=sizeLine) (h:DmL K F H ds xs):ur K F H (upd H p (.lst xs)) (.frs (.list ds)) (.ref p) :=
 ⟨p,rfl,hp,xs,ai,hz,(h.fresh hp).pr (Pr.of_same (ay.nw _ hp)) fun _ z=>z⟩
theorem DS {p:Addr} {xs:List V} {ds:List PyData} (hp:H p=none) (hz:xs.length<=sizeLine) (h:DmL K F H ds xs):ur K F H (upd H p (.tup xs)) (.dat (.tuple ds)) (.ref p) :=
 ⟨p,xs,rfl,.inl (.inl ai),hz,h.pr (Pr.of_same (ay.nw _ hp)) fun _ z=>z⟩
end
noncomputable def Es:PyData->PyData->Option PR
 | .int i,.int j=>some (.dat (.int (i+j)))
 | .str x,.str y=>if x.length+y.length<=sizeLine then some (.dat (.str (x++y))) else none
 | .list xs,.list ys=>if xs.length+ys.length<=sizeLine then some (.frs (.list (xs++ys))) else none
 | .tuple (x :: xs),.tuple ys=>if (x :: xs).length+ys.length<=sizeLine then some (.dat (.tuple ((x :: xs)++ys))) else none
 | _,_=>none
def CJ (K:Fg):R2:=rOr (rI0 fun i j=>.int (i+j)) (rOr Ao (rOr (Ac K) (xS K)))
theorem f6 (x y:Str):(x++y).length=x.length+y.length:=by
 show (x.cps++y.cps).size=_;rw [Array.size_append];rfl
noncomputable def cV:Prm:=Prm.two CJ Es fun K F H x y u v pr Q hf hx hy hd q=>by
 unfold Es at hf;split at hf
 ·cases hf;rw [vInt hx,vInt hy];exact .inl ⟨_,_,rfl,rfl,q _ H (ay.rf H) rfl⟩
 ·split at hf
  ·rename_i x y hl;cases hf;obtain ⟨rfl,l1,o1⟩:=vStr hx;obtain ⟨rfl,l2,o2⟩:=vStr hy;exact .inr (.inl ⟨_,_,rfl,rfl,hl,q _ H (ay.rf H) ⟨rfl,by rw [f6];exact hl,bh o1 o2⟩⟩)
  ·cases hf
 ·split at hf
  ·rename_i xs ys hl;cases hf;obtain ⟨a,us,rfl,s1,z1,d1⟩:=ke hx;obtain ⟨b,ws,rfl,s2,z2,d2⟩:=ke hy;have hl':us.length+ws.length<=sizeLine:=by rw [d1.len,d2.len];exact hl
   exact .inr (.inr (.inl ⟨a,b,us,ws,rfl,rfl,s1,s2,hl',fun p hp=>q _ _ (ay.nw _ hp) (xo hp (by rw [Gf];exact hl') (d1.app d2))⟩))
  ·cases hf
 ·split at hf
  ·rename_i x xs ys hl;cases hf;obtain ⟨a,us,rfl,s1,z1,d1⟩:=qS hx;obtain ⟨b,ws,rfl,s2,z2,d2⟩:=qS hy;have hl':us.length+ws.length<=sizeLine:=by rw [d1.len,d2.len];exact hl
   have hne:us≠[]:=fun z=>by rw [z] at d1;obtain ⟨v,r,e,_⟩:=d1;cases e
   refine .inr (.inr (.inr ⟨a,b,us,ws,rfl,rfl,s1,s2,hne,hl',fun z=>?_,fun z p hp=>q _ _ (ay.nw _ hp) (DS hp (by rw [Gf];exact hl') (d1.app d2))⟩));subst z;have hys:ys=[]:=by
    cases ys with
    | nil=>rfl
    | cons y ys=>obtain ⟨v,r,e,_⟩:=d2;cases e
   subst hys;exact q _ H (ay.rf H) ⟨a,us,rfl,s1,z1,by rw [Hx];exact d1⟩
  ·cases hf
 ·cases hf
theorem ar {X:Cx}:OpR X (binaryOp .Add) (fun x y=>cV.r X.K [x,y]):=orR Ah (orR xj (orR wA vq))
noncomputable def uX (c:Int->Int->Bool) (g:Int->Int->PyData):PyData->PyData->Option PR
 | .int i,.int j=>if c i j=true then some (.dat (g i j)) else none
 | _,_=>none
noncomputable def Prm.ints (C:Int->Int->Prop) (c:Int->Int->Bool) (hc:∀ i j,c i j=true->C i j) (g:Int->Int->Int):Prm:=Prm.two (fun _=>rI C fun i j=>.int (g i j)) (uX c fun i j=>.int (g i j)) fun K F H x y u v pr Q hf hx hy hd q=>by
 unfold uX at hf;split at hf
 ·split at hf
  ·rename_i h;cases hf;rw [vInt hx,vInt hy];exact ⟨_,_,rfl,rfl,hc _ _ h,q _ H (ay.rf H) rfl⟩
  ·cases hf
 ·cases hf
noncomputable def Prm.AQ (g:Int->Int->Bool):Prm:=Prm.two (fun _=>rI0 fun i j=>.bl (g i j)) (uX (fun _ _=>true) fun i j=>.bool (g i j)) fun K F H x y u v pr Q hf hx hy hd q=>by
 unfold uX at hf;split at hf
 ·rw [Gs rfl] at hf;cases hf;rw [vInt hx,vInt hy];exact ⟨_,_,rfl,rfl,q _ H (ay.rf H) rfl⟩
 ·cases hf
noncomputable def xC:Prm:=Prm.two (fun _=>rI0 fun i j=>.int (i - j)) (uX (fun _ _=>true) fun i j=>.int (i - j)) fun K F H x y u v pr Q hf hx hy hd q=>by
 unfold uX at hf;split at hf
 ·rw [Gs rfl] at hf;cases hf;rw [vInt hx,vInt hy];exact ⟨_,_,rfl,rfl,q _ H (ay.rf H) rfl⟩
 ·cases hf
theorem gb {X:Cx}:OpR X (binaryOp .Sub) (fun x y=>xC.r X.K [x,y]):=zz
noncomputable def mulC (i j:Int):Bool:=(decide (-(2 ^ 64) < i)&&decide (i < 2 ^ 64))||(decide (-(2 ^ 64) < j)&&decide (j < 2 ^ 64))
noncomputable def xt:Prm:=Prm.ints x2 mulC (fun i j h=>by simpa [mulC,x2,JB,GY,IM] using h) (fun i j=>i*j)
theorem gN {X:Cx}:OpR X (binaryOp .Mult) (fun x y=>xt.r X.K [x,y]):=zQ
noncomputable def ou:Prm:=Prm.ints (fun _ j=>0 < j) (fun _ j=>decide (0 < j)) (fun i j h=>by simpa using h) (fun i j=>i % j)
theorem bM {X:Cx}:OpR X (binaryOp .Mod) (fun x y=>ou.r X.K [x,y]):=AH
noncomputable def sv:Prm:=Prm.ints (fun _ j=>0 < j/\j.natAbs.log2 < 9000) (fun _ j=>decide (0 < j)&&decide (j < 2 ^ 200)) (fun i j h=>by
 simp only [GY,IM] at h;refine ⟨h.1,?_⟩;have hz:j.natAbs≠0:=by omega
 have:j.natAbs < 2 ^ 200:=by omega
 exact GD ((Nat.log2_lt hz).mpr this) (by decide)) (fun i j=>i / j)
theorem i5 {X:Cx}:OpR X (binaryOp .FloorDiv) (fun x y=>sv.r X.K [x,y]):=rY
noncomputable def Am:Prm:=Prm.ints ET (fun i j=>decide (0<=j)&&decide (j<=1000000)&&decide (i.natAbs < 2 ^ 64)) (fun i j h=>by simp only [GY,IM] at h;exact ⟨h.1.1,h.1.2,h.2⟩) (fun i j=>i ^ j.toNat)
theorem iU {X:Cx}:OpR X (binaryOp .Pow) (fun x y=>Am.r X.K [x,y]):=Aw
noncomputable def D9:Prm:=Prm.one (fun _=>rU fun i=>.int (-i)) (fun x=>match x with | .int i=>some (.dat (.int (-i))) | _=>none) fun K F H x u pr Q hf hx hd q=>by
 split at hf
 ·cases hf;rw [vInt hx];exact ⟨_,rfl,q _ H (ay.rf H) rfl⟩
 ·cases hf
noncomputable def ES (g:Int->Int->Bool) (h:Str->Str->Bool):PyData->PyData->Option PR
 | .int i,.int j=>some (.dat (.bool (g i j)))
 | .str x,.str y=>some (.dat (.bool (h x y)))
 | _,_=>none
noncomputable def ltS (x y:Str):Bool:=decide (x.cps.toList < y.cps.toList)
noncomputable def ltP:Prm:=Prm.two (fun _=>rOr (rI0 fun i j=>.bl (decide (i < j))) EF) (ES (fun i j=>decide (i < j)) ltS) fun K F H x y u v pr Q hf hx hy hd q=>by
 unfold ES at hf;split at hf
 ·cases hf;rw [vInt hx,vInt hy];exact .inl ⟨_,_,rfl,rfl,q _ H (ay.rf H) rfl⟩
 ·cases hf;rw [(vStr hx).1,(vStr hy).1];exact .inr ⟨_,_,rfl,rfl,q _ H (ay.rf H) rfl⟩
 ·cases hf
theorem ma {X:Cx}:OpR X (compareOp .Lt) (fun x y=>ltP.r X.K [x,y]):=orR De xW
noncomputable def gtP:Prm:=Prm.AQ fun i j=>decide (i > j)
theorem lH {X:Cx}:OpR X (compareOp .Gt) (fun x y=>gtP.r X.K [x,y]):=Dk
noncomputable def geP:Prm:=Prm.AQ fun i j=>decide (i>=j)
theorem AD {X:Cx}:OpR X (compareOp .GtE) (fun x y=>geP.r X.K [x,y]):=C8
mutual
noncomputable def noD:PyData->Bool
 | .dict _=>false
 | .list xs=>dN xs
 | .tuple xs=>dN xs
 | _=>true
noncomputable def dN:List PyData->Bool
 | []=>true
 | x :: xs=>noD x&&dN xs
end
section
variable {K:Fg} {F:Addr->Prop} {H:Hp}
mutual
theorem Dm.lay:∀ {d:PyData} {v:V},Dm K F H d v->noD d=true->d.canLay0=true
 | .none,v,h,_=>by simp [PyData.canLay0]
 | .bool b,v,h,_=>by simp [PyData.canLay0]
 | .int i,v,h,_=>by simp [PyData.canLay0]
 | .str x,v,h,_=>by simpa [PyData.canLay0] using h.2.2
 | .list ds,v,h,n=>by obtain ⟨a,xs,e,l,z,r⟩:=h;simpa [PyData.canLay0] using DmL.lay r (by simpa [noD] using n)
 | .tuple ds,v,h,n=>by obtain ⟨a,xs,e,l,z,r⟩:=h;simpa [PyData.canLay0] using DmL.lay r (by simpa [noD] using n)
 | .dict kvs,v,h,n=>by simp [noD] at n
theorem DmL.lay:∀ {ds:List PyData} {vs:List V},DmL K F H ds vs->dN ds=true->PyData.canLayAll0 ds=true
 | [],vs,h,_=>by simp [PyData.canLayAll0]
 | d :: ds,vs,h,n=>by
  obtain ⟨v,r,e,h1,h2⟩:=h;have n':noD d=true/\dN ds=true:=by simpa [dN] using n
  simp [PyData.canLayAll0,Dm.lay h1 n'.1,DmL.lay h2 n'.2]
end
theorem Vw.lay {d:PyData} {v:V} (h:Vw K F H d v) (n:noD d=true):d.canLay0=true:=by
 cases d with
 | list ds=>obtain ⟨a,xs,e,l,z,r⟩:=ke h;simpa [PyData.canLay0] using DmL.lay r (by simpa [noD] using n)
 | dict ds=>simp [noD] at n
 | _=>exact Dm.lay (K:=K) (F:=F) (H:=H) h n
variable {X:Cx} {pins:List (Addr×Obj)} {σ:St} {s:Shared}
mutual
theorem Dm.reads (I:Inv X pins σ H s):∀ {d:PyData} {v:V} {u:Value},Dm X.K F H d v->noD d=true->RelV v u->∃ as,Reads s.heap u d as
 | .none,v,u,hd,_,r=>by
  have e:v=.non:=hd;subst e;cases (show u=Value.none from r);exact ⟨_,.none⟩
 | .bool b,v,u,hd,_,r=>by
  have e:v=.bl b:=hd;subst e;cases (show u=Value.bool b from r);exact ⟨_,.bool b⟩
 | .int i,v,u,hd,_,r=>by
  have e:v=.int i:=hd;subst e;obtain ⟨t,e⟩:=(show ∃ t,u=Value.int i t from r);subst e;exact ⟨_,.int i t⟩
 | .str y,v,u,hd,_,r=>by
  have e:v=.str y:=hd.1;subst e;obtain ⟨t,e⟩:=(show ∃ t,u=Value.str y t from r);subst e;exact ⟨_,.str y t⟩
 | .list ds,v,u,hd,n,r=>by
  obtain ⟨a,xs,e,l,z,rs⟩:=hd;subst e;cases (show u=Value.ref a from r);obtain ⟨its,rv,⟨o,k,h1,h2,h3,h4⟩,_⟩:=I.list (l.elim (fun q=>.inl q.2) .inr);obtain ⟨as,ra⟩:=DmL.reads I rs (by simpa [noD] using n) rv;exact ⟨_,.list h1 h2 h4 (by simpa using ra)⟩
 | .tuple ds,v,u,hd,n,r=>by
  obtain ⟨a,xs,e,l,z,rs⟩:=hd;subst e;cases (show u=Value.ref a from r);obtain ⟨its,rv,⟨o,h1,h2,k,h4⟩,_⟩:=I.tuple l;obtain ⟨as,ra⟩:=DmL.reads I rs (by simpa [noD] using n) rv;exact ⟨_,.tuple h1 h2 h4 (by simpa using ra)⟩
 | .dict kvs,v,u,hd,n,r=>by simp [noD] at n
theorem DmL.reads (I:Inv X pins σ H s):∀ {ds:List PyData} {vs:List V} {us:List Value},DmL X.K F H ds vs->dN ds=true->Vals vs us->∃ as,ReadsAll s.heap us ds as
 | [],vs,us,hd,_,r=>by
  have e:vs=[]:=hd;subst e;cases r;exact ⟨_,.nil⟩
 | d :: ds,vs,us,hd,n,r=>by
  obtain ⟨v,rr,e,h1,h2⟩:=hd;have n':noD d=true/\dN ds=true:=by simpa [dN] using n
  subst e;cases r with
  | cons r1 r2 =>
   obtain ⟨as,q1⟩:=Dm.reads I h1 n'.1 r1;obtain ⟨bs,q2⟩:=DmL.reads I h2 n'.2 r2;exact ⟨_,.cons q1 q2⟩
end
theorem Vw.reads (I:Inv X pins σ H s) {d:PyData} {v:V} {u:Value} (h:Vw X.K F H d v) (n:noD d=true) (r:RelV v u):∃ as,Reads s.heap u d as:=by
 cases d with
 | list ds =>
  obtain ⟨a,xs,rfl,l,z,rs⟩:=ke h;cases (show u=Value.ref a from r);obtain ⟨its,rv,⟨o,k,h1,h2,h3,h4⟩,_⟩:=I.list l;obtain ⟨as,ra⟩:=DmL.reads I rs (by simpa [noD] using n) rv;exact ⟨_,.list h1 h2 h4 (by simpa using ra)⟩
 | dict ds=>simp [noD] at n
 | _=>exact Dm.reads (F:=F) I h n r
end
noncomputable def fH (d:PyData):Bool:=noD d&&decide (d.depth<=64)
def F4 (neg:Bool) (K:Fg):R2:=fun x y H Q=>∃ F d e,Vw K F H d x/\Vw K F H e y/\fH d=true/\fH e=true/\Q (.bl (if neg then !PyData.eqv d e else PyData.eqv d e)) H
noncomputable def eqD (neg:Bool) (d e:PyData):Option PR:=if fH d=true/\fH e=true then some (.dat (.bool (if neg then !PyData.eqv d e else PyData.eqv d e))) else none
noncomputable def Bn (neg:Bool):Prm:=Prm.two (F4 neg) (eqD neg) fun K F H x y u v pr Q hf hx hy hd q=>by
 unfold eqD at hf;split at hf
 ·rename_i h;cases hf;exact ⟨F,x,y,hx,hy,h.1,h.2,q _ H (ay.rf H) rfl⟩
 ·cases hf
noncomputable abbrev eqP:Prm:=Bn false
noncomputable abbrev neP:Prm:=Bn true
theorem dW {K:Fg} {F:Addr->Prop} {H:Hp} {d:PyData} {v:V} (h:Vw K F H d v) (o:fH d=true):SeqAt.shaped d=true:=by
 have o':noD d=true/\d.depth<=64:=by simpa [fH] using o
 simp [SeqAt.shaped,h.lay o'.1,o'.2]
theorem aL {X:Cx} (hu:X.A.units+64 < cLine):OpR X (compareOp .Eq) (fun x y=>eqP.r X.K [x,y]):=by
 intro pins s σ H x y v u Q I rx ry h;obtain ⟨F,d,e,h1,h2,o1,o2,hq⟩:=h;obtain ⟨as,r1⟩:=h1.reads I (by have:=o1;simp [fH] at this;exact this.1) rx;obtain ⟨bs,r2⟩:=h2.reads I (by have:=o2;simp [fH] at this;exact this.1) ry;exact SeqAt.compareEq_shaped r1 r2 (dW h1 o1) (dW h2 o2) hu ⟨.bl _,H,I,rfl,hq⟩
theorem mD {X:Cx} (hu:X.A.units+64 < cLine):OpR X (compareOp .NotEq) (fun x y=>neP.r X.K [x,y]):=by
 intro pins s σ H x y v u Q I rx ry h;obtain ⟨F,d,e,h1,h2,o1,o2,hq⟩:=h;obtain ⟨as,r1⟩:=h1.reads I (by have:=o1;simp [fH] at this;exact this.1) rx;obtain ⟨bs,r2⟩:=h2.reads I (by have:=o2;simp [fH] at this;exact this.1) ry;exact SeqAt.compareNe_shaped r1 r2 (dW h1 o1) (dW h2 o2) hu ⟨.bl _,H,I,rfl,hq⟩
noncomputable def dg:PyData->Bool | .none=>true | _=>false
theorem rn {K:Fg} {F:Addr->Prop} {H:Hp} {d:PyData} {v:V} (h:Vw K F H d v):decide (v=.non)=dg d:=by
 cases d with
 | none=>rw [EH h];rfl
 | bool b=>rw [vBl h];rfl
 | int i=>rw [vInt h];rfl
 | str x=>rw [(vStr h).1];rfl
 | list ds=>obtain ⟨a,xs,rfl,_⟩:=ke h;rfl
 | tuple ds=>obtain ⟨a,xs,rfl,_⟩:=qS h;rfl
 | dict ds=>obtain ⟨a,rfl,_⟩:=h;rfl
noncomputable def lQ:Prm:=Prm.two (fun _=>yq) (fun x y=>match y with | .none=>some (.dat (.bool (!dg x))) | _=>none) fun K F H x y u v pr Q hf hx hy hd q=>by
 split at hf
 ·cases hf;exact ⟨EH hy,q _ H (ay.rf H) (by rw [rn hx];rfl)⟩
 ·cases hf
theorem gh {X:Cx}:OpR X (compareOp .IsNot) (fun x y=>lQ.r X.K [x,y]):=tN
noncomputable def ixD:PyData->PyData->Option PR
 | .list xs,.int i=>(atI xs i).map .dat
 | .tuple xs,.int i=>(atI xs i).map .dat
 | .str x,.int i=>(atI x.cps.toList i).map fun c=>.dat (.str ⟨#[c]⟩)
 | _,_=>none
theorem tW {K:Fg} {F:Addr->Prop} {H:Hp} {ds:List PyData} {xs:List V} {i:Int} {d:PyData} (h:DmL K F H ds xs) (e:atI ds i=some d):∃ v,atI xs i=some v/\Dm K F H d v:=by
 unfold atI at e ⊢;rw [h.len];cases q:ixN ds.length i with
 | none=>rw [q] at e;cases e
 | some j =>
  rw [q] at e;have e:ds[j]?=some d:=e;exact h.get e
theorem wN {α:Type} {xs:List α} {i:Int} {x:α} (e:atI xs i=some x):x∈xs:=by
 unfold atI at e;cases q:ixN xs.length i with
 | none=>rw [q] at e;cases e
 | some j=>rw [q] at e;exact Gx (show xs[j]?=some x from e)
noncomputable def ixP:Prm:=Prm.two rIx ixD fun K F H x y u v pr Q hf hx hy hd q=>by
 unfold ixD at hf;split at hf
 ·obtain ⟨d,e,rfl⟩:=GW.mp hf;obtain ⟨a,us,rfl,s1,z1,d1⟩:=ke hx;rw [vInt hy];obtain ⟨v,ev,dv⟩:=tW d1 e;exact .inl ⟨a,us,_,v,rfl,rfl,s1,ev,q _ H (ay.rf H) dv⟩
 ·obtain ⟨d,e,rfl⟩:=GW.mp hf;obtain ⟨a,us,rfl,s1,z1,d1⟩:=qS hx;rw [vInt hy];obtain ⟨v,ev,dv⟩:=tW d1 e;exact .inr (.inl ⟨a,us,_,v,rfl,rfl,s1,ev,q _ H (ay.rf H) dv⟩)
 ·rename_i x i;obtain ⟨c,e,rfl⟩:=GW.mp hf;obtain ⟨rfl,l1,o1⟩:=vStr hx;rw [vInt hy];have hc:=dY o1 c (wN e);exact .inr (.inr ⟨_,_,c,rfl,rfl,l1,e,q _ H (ay.rf H) ⟨rfl,by show 1<=sizeLine;decide,by simp [PyData.strOk,hc]⟩⟩)
 ·cases hf
theorem uO {X:Cx}:IxR X (fun x y=>ixP.r X.K [x,y]):=zO
noncomputable def cutD {α:Type} (xs:List α) (lo hi:Option Int):List α:=(xs.drop (HT.sIx xs.length 0 lo)).take (HT.sIx xs.length xs.length hi - HT.sIx xs.length 0 lo)
noncomputable def slD (lo hi:Option Int):PyData->Option PR
 | .list xs=>some (.frs (.list (cutD xs lo hi)))
 | .tuple xs=>if HT.sIx xs.length 0 lo=0/\HT.sIx xs.length xs.length hi=xs.length then none else some (.dat (.tuple (cutD xs lo hi)))
 | .str x=>some (.dat (.str (gZ x lo hi)))
 | _=>none
def Df (K:Fg) (lo hi:Option Int):V->Hp->VK->Prop:=fun x H Q=>Ck EM (Ck (Ex K) (EO K)) x lo hi H Q
section
variable {K:Fg} {F:Addr->Prop} {H:Hp}
theorem DmL.drop:∀ {ds:List PyData} {xs:List V} (n:Nat),DmL K F H ds xs->DmL K F H (ds.drop n) (xs.drop n)
 | ds,xs,0,h=>h
 | [],xs,n+1,h=>by rw [show xs=[] from h];rfl
 | d :: ds,xs,n+1,h=>by obtain ⟨v,r,rfl,_,h2⟩:=h;exact DmL.drop n h2
theorem DmL.take:∀ {ds:List PyData} {xs:List V} (n:Nat),DmL K F H ds xs->DmL K F H (ds.take n) (xs.take n)
 | ds,xs,0,h=>by rw [List.take_zero,List.take_zero];rfl
 | [],xs,n+1,h=>by rw [show xs=[] from h];rfl
 | d :: ds,xs,n+1,h=>by obtain ⟨v,r,rfl,h1,h2⟩:=h;exact ⟨v,_,rfl,h1,DmL.take n h2⟩
theorem DmL.cut {ds:List PyData} {xs:List V} (lo hi:Option Int) (h:DmL K F H ds xs):DmL K F H (cutD ds lo hi) (qV xs lo hi):=by
 unfold cutD qV;rw [h.len];exact (h.drop _).take _
theorem ll (xs:List V) (lo hi:Option Int):(qV xs lo hi).length<=xs.length:=by
 unfold qV;rw [GX,HC];omega
theorem qr {x:Str} (lo hi:Option Int) (h:PyData.strOk x=true):PyData.strOk (gZ x lo hi)=true:=by
 have hm:=dY h;unfold PyData.strOk gZ;rw [Jl];intro c hc;have:c∈(x.cps.toList.drop (HT.sIx x.length 0 lo)).take (HT.sIx x.length x.length hi - HT.sIx x.length 0 lo):=by simpa using hc
 have:=hm c (List.mem_of_mem_drop (Jc this));simpa using this
theorem ye {lo hi:Option Int} {x:PyData} {u:V} {pr:PR} {Q:VK} (hf:slD lo hi x=some pr) (hx:Vw K F H x u) (q:∀ w H',ay H H'->ur K F H H' pr w->Q w H'):Df K lo hi u H Q:=by
 unfold slD at hf;split at hf
 ·cases hf;obtain ⟨a,us,rfl,s1,z1,d1⟩:=ke hx;exact .inr (.inl ⟨a,us,rfl,s1,fun p hp=>q _ _ (ay.nw _ hp) (xo hp (GU (ll _ _ _) z1) (d1.cut lo hi))⟩)
 ·split at hf
  ·cases hf
  rename_i hn;cases hf;obtain ⟨a,us,rfl,s1,z1,d1⟩:=qS hx;exact .inr (.inr ⟨a,us,rfl,s1,by rw [d1.len];exact hn,fun p hp=>q _ _ (ay.nw _ hp) (DS hp (GU (ll _ _ _) z1) (d1.cut lo hi))⟩)
 ·cases hf;obtain ⟨rfl,l1,o1⟩:=vStr hx;exact .inl ⟨_,rfl,l1,q _ H (ay.rf H) ⟨rfl,GU (bB _ _ _) l1,qr lo hi o1⟩⟩
 ·cases hf
end
noncomputable def Fd:Prm:=Prm.two (fun K x y H Q=>∃ i,y=.int i/\Df K (some i) none x H Q) (fun x y=>match y with | .int i=>slD (some i) none x | _=>none) fun K F H x y u v pr Q hf hx hy hd q=>by
 split at hf
 ·exact ⟨_,vInt hy,ye hf hx q⟩
 ·cases hf
noncomputable def EN:Prm:=Prm.two (fun K x y H Q=>∃ i,y=.int i/\Df K none (some i) x H Q) (fun x y=>match y with | .int i=>slD none (some i) x | _=>none) fun K F H x y u v pr Q hf hx hy hd q=>by
 split at hf
 ·exact ⟨_,vInt hy,ye hf hx q⟩
 ·cases hf
noncomputable def ER:PyData->Option PR
 | .str x=>some (.dat (.int x.length))
 | .list xs=>some (.dat (.int xs.length))
 | .tuple xs=>some (.dat (.int xs.length))
 | _=>none
noncomputable def nA:Prm:=Prm.one (fun K x=>Bb K [x]) ER fun K F H x u pr Q hf hx hd q=>by
 unfold ER at hf;split at hf
 ·cases hf;obtain ⟨rfl,l1,o1⟩:=vStr hx;exact xK l1 (q _ H (ay.rf H) rfl)
 ·cases hf;obtain ⟨a,us,rfl,s1,z1,d1⟩:=ke hx;exact yR s1 (q _ H (ay.rf H) (by rw [d1.len];rfl))
 ·cases hf;obtain ⟨a,us,rfl,s1,z1,d1⟩:=qS hx;exact yo s1 (q _ H (ay.rf H) (by rw [d1.len];rfl))
 ·cases hf
theorem g9 {X:Cx} {f:Value} {r:List V->Hp->VK->Prop} {r':V->Hp->VK->Prop} (h:az X f r) (e:∀ x H Q,r' x H Q->r [x] H Q):az X f (fun vs H Q=>match vs with | [u]=>r' u H Q | _=>False):=by
 intro pins s σ H xs us Q I rv q
 match xs,q with
 | [x],q=>exact h pins s σ H [x] us Q I rv (e x H Q q)
theorem bE {X:Cx}:az X (.builtin "len") (nA.r X.K):=g9 qv fun _ _ _ h=>h
noncomputable def Bx:Prm:=Prm.one (fun _ x=>Cz [x]) (fun x=>match x with | .int i=>some (.dat (.int (if i < 0 then -i else i))) | _=>none) fun K F H x u pr Q hf hx hd q=>by
 split at hf
 ·cases hf;rw [vInt hx];exact Cy (q _ H (ay.rf H) rfl)
 ·cases hf
theorem kJ {X:Cx}:az X (.builtin "abs") (Bx.r X.K):=g9 nK fun _ _ _ h=>h
noncomputable def xA:Prm:=Prm.one (fun _ x=>yi [x]) (fun x=>match x with | .int i=>some (.dat (.int i)) | .bool k=>some (.dat (.int (if k then 1 else 0))) | _=>none) fun K F H x u pr Q hf hx hd q=>by
 split at hf
 ·cases hf;rw [vInt hx];exact .inl ⟨_,rfl,q _ H (ay.rf H) rfl⟩
 ·cases hf;rw [vBl hx];exact .inr ⟨_,rfl,q _ H (ay.rf H) rfl⟩
 ·cases hf
theorem gm {X:Cx}:az X (.type "int") (xA.r X.K):=g9 nG fun _ _ _ h=>h
noncomputable def E1:Prm:=Prm.two (fun _ x y=>yA [x,y]) (uX (fun _ _=>true) fun i j=>.int (if j < i then j else i)) fun K F H x y u v pr Q hf hx hy hd q=>by
 unfold uX at hf;split at hf
 ·rw [Gs rfl] at hf;cases hf;rw [vInt hx,vInt hy];exact ⟨_,_,rfl,q _ H (ay.rf H) rfl⟩
 ·cases hf
theorem zt {X:Cx} {f:Value} {r:List V->Hp->VK->Prop} {r':R2} (h:az X f r) (e:∀ x y H Q,r' x y H Q->r [x,y] H Q):az X f (fun vs H Q=>match vs with | [u,v]=>r' u v H Q | _=>False):=by
 intro pins s σ H xs us Q I rv q
 match xs,q with
 | [x,y],q=>exact h pins s σ H [x,y] us Q I rv (e x y H Q q)
theorem wk {X:Cx} (hc:X.calm=true):az X (.builtin "min") (E1.r X.K):=zt (mT hc) fun _ _ _ _ h=>h
noncomputable def chars (x:Str):List PyData:=x.cps.toList.map fun c=>.str ⟨#[c]⟩
noncomputable def dX (x:Str):List V:=x.cps.toList.map fun c=>.str ⟨#[c]⟩
def AE (K:Fg):V->Hp->VK->Prop:=fun x H Q=>zI K [x] H Q\/∃ z,x=.str z/\z.length<=sizeLine/\∀ p,H p=none->Q (.ref p) (upd H p (.lst (dX z)))
noncomputable def yS:PyData->Option PR
 | .list xs=>some (.frs (.list xs))
 | .tuple xs=>some (.frs (.list xs))
 | .str x=>some (.frs (.list (chars x)))
 | _=>none
noncomputable def yD:Prm:=Prm.one AE yS fun K F H x u pr Q hf hx hd q=>by
 unfold yS at hf;split at hf
 ·cases hf;obtain ⟨a,us,rfl,s1,z1,d1⟩:=ke hx;exact .inl ⟨a,us,rfl,.inl s1,fun p hp=>q _ _ (ay.nw _ hp) (xo hp z1 d1)⟩
 ·cases hf;obtain ⟨a,us,rfl,s1,z1,d1⟩:=qS hx;exact .inl ⟨a,us,rfl,.inr s1,fun p hp=>q _ _ (ay.nw _ hp) (xo hp z1 d1)⟩
 ·cases hf;obtain ⟨rfl,l1,o1⟩:=vStr hx;refine .inr ⟨_,rfl,l1,fun p hp=>q _ _ (ay.nw _ hp) (xo hp ?_ (vm (dY o1)))⟩;rw [show (dX _).length=_ from Gg _];simpa [Str.length] using l1
 ·cases hf
theorem lE:∀ {xs:List V} {us:List Value},xs.length=us.length->(∀ (i:Nat) (x:V) (u:Value),xs[i]?=some x->us[i]?=some u->RelV x u)->Vals xs us
 | [],[],_,_=>.nil
 | [],_ :: _,h,_=>by cases h
 | _ :: _,[],h,_=>by cases h
 | x :: xs,u :: us,h,q=>.cons (q 0 x u rfl rfl) (lE (by simpa using h) fun i y w h1 h2=>q (i+1) y w (by simpa using h1) (by simpa using h2))
theorem nk {z:Str} {acc:Array Value} (h:ItemsOf (SignAt z) acc z.cps.size):Vals (dX z) acc.toList:=by
 refine lE ?_ fun i x u h1 h2=>?_
 ·rw [show (dX z).length=_ from Gg _];simp [h.1]
 ·obtain ⟨c,t,hc,rfl⟩:=h.2 i u (by simpa using h2);unfold dX at h1;rw [GB] at h1;have:z.cps.toList[i]?=some c:=by rw [<- hc];simp
  rw [this] at h1;cases h1;exact ⟨t,rfl⟩
theorem jS {X:Cx} (hc:X.calm=true):az X (.type "list") (fun xs H Q=>∃ z,xs=[.str z]/\z.length<=sizeLine/\∀ p,H p=none->Q (.ref p) (upd H p (.lst (dX z)))):=by
 intro pins s σ H xs us Q I r h;obtain ⟨z,rfl,hl,q⟩:=h;obtain ⟨u,rfl,r1⟩:=vals1 r;obtain ⟨t,rfl⟩:=r1;have hz:(dX z).length<=sizeLine:=by rw [show (dX z).length=_ from Gg _];simpa [Str.length] using hl
 refine call_list_str (I.ok.hd hc) z t (fun h' tk acc' c' hk hS hacc=>?_) hl;refine ⟨.ref s.heap.objs.size,_,I.laid (t':=tk) hk (Gu _) (show df X.prog X.w _ h' _ (.lst (dX z)) from ⟨hz,acc'.toList,c',?_,by rw [Jd];exact hS⟩),rfl,q _ (I.hok.fresh (Gu _))⟩;exact nk hacc
theorem rp {X:Cx} {f:Value} {r r':List V->Hp->VK->Prop} (h:az X f r) (h':az X f r'):az X f (fun xs H Q=>r xs H Q\/r' xs H Q):=by
 intro pins s σ H xs us Q I rv q;rcases q with q | q
 ·exact h pins s σ H xs us Q I rv q
 ·exact h' pins s σ H xs us Q I rv q
theorem tM {X:Cx} (hc:X.calm=true):az X (.type "list") (yD.r X.K):=g9 (rp mR (jS hc)) fun x H Q h=>h.imp id fun ⟨z,e,r⟩=>⟨z,by rw [e],r⟩
noncomputable def ui:PyData->Option PR
 | .list xs=>some (.dat (.tuple xs))
 | .tuple xs=>some (.dat (.tuple xs))
 | _=>none
noncomputable def lN:Prm:=Prm.one (fun K x=>tY K [x]) ui fun K F H x u pr Q hf hx hd q=>by
 unfold ui at hf;split at hf
 ·cases hf;obtain ⟨a,us,rfl,s1,z1,d1⟩:=ke hx;exact ⟨a,us,rfl,.inl ⟨s1,fun p hp=>q _ _ (ay.nw _ hp) (DS hp z1 d1)⟩⟩
 ·cases hf;obtain ⟨a,us,rfl,s1,z1,d1⟩:=qS hx;exact ⟨a,us,rfl,.inr ⟨s1,q _ H (ay.rf H) ⟨a,us,rfl,s1,z1,d1⟩⟩⟩
 ·cases hf
theorem gC {X:Cx}:az X (.type "tuple") (lN.r X.K):=g9 kh fun _ _ _ h=>h
theorem aC (s:String):PyData.strOk (Str.ofString s)=true:=by
 rw [Str.ofString_eq_toList];unfold PyData.strOk;rw [Jl];intro c hc;have:c∈s.toList.map Char.toNat:=by simpa using hc
 obtain ⟨ch,_,rfl⟩:=GO.mp this;have:=ch.valid;simp only [IM];rcases this with h | ⟨_,h⟩
 ·show ch.val.toNat < _;have:ch.val.toNat < 0xD800:=h;omega
 ·exact h
mutual
theorem qI:∀ (d:PyData),hkB d=true->noD d=true
 | .int _,_=>rfl
 | .str _,_=>rfl
 | .tuple ds,h=>by rw [noD];exact oh ds h
 | .none,h=>by cases h
 | .bool _,h=>by cases h
 | .list _,h=>by cases h
 | .dict _,h=>by cases h
theorem oh:∀ (ds:List PyData),q0 ds=true->dN ds=true
 | [],_=>rfl
 | d :: ds,h=>by
  simp only [q0,GY] at h;rw [dN,qI d h.1,oh ds h.2];rfl
end
theorem me {F:Addr->Prop} {H:Hp} {a:Addr} {o o':HO} (ha:F a) (e:H a=some o') (w:Wr o'=true):Pr F H (upd H a o):=fun b u q n=>by
 by_cases y:b=a
 ·subst y;rcases n with n | n
  ·exact absurd ha n
  ·rw [e] at q;cases q;rw [n] at w;cases w
 ·rw [ag y];exact q
theorem DmL.set {K:Fg} {F:Addr->Prop} {H:Hp}:∀ {ds:List PyData} {xs:List V} {d:PyData} {v:V} (j:Nat),DmL K F H ds xs->Dm K F H d v->DmL K F H (ds.set j d) (xs.set j v)
 | [],xs,d,v,j,h,q=>by rw [show xs=[] from h];rfl
 | e :: ds,xs,d,v,0,h,q=>by obtain ⟨w,r,rfl,_,h2⟩:=h;exact ⟨v,r,rfl,q,h2⟩
 | e :: ds,xs,d,v,j+1,h,q=>by obtain ⟨w,r,rfl,h1,h2⟩:=h;exact ⟨w,_,rfl,h1,DmL.set j h2 q⟩
noncomputable def wV:uI where
 r:=fun _ o i x H Q=>yF o i x H Q
 f:=fun d k x=>match d,k with
  | .list xs,.int i=>(ixN xs.length i).map fun j=>.list (xs.set j x)
  | _,_=>none
 ok:=fun K F H d a k x vk vx d' Q hf ha ht hk hx q=>by
  split at hf
  ·obtain ⟨j,e,rfl⟩:=GW.mp hf;obtain ⟨xs,ea,z,r⟩:=ht;rw [vInt hk];refine ⟨a,xs,_,j,rfl,rfl,ea,by rw [r.len];exact e,q _ (fun b o n e=>by rw [ag n];exact e) ⟨_,ai,by rw [Ha];exact z,(r.set j hx).pr (me ha ea rfl) fun _ z=>z⟩⟩
  ·cases hf
theorem qD {K:Fg} {F:Addr->Prop} {H:Hp} {d:PyData} {a:Addr} (h:isL d=true) (t:Top K F H d a):tyV K "list" (.ref a) H:=by
 cases d with
 | list ds=>obtain ⟨xs,e,_⟩:=t;exact .inl ⟨rfl,xs,.inl (.inl e)⟩
 | _=>cases h
noncomputable def zZ:Mtr where
 T := "list"
 r:=fun _=>pj
 ty:=isL
 f:=fun d as=>match d,as with
  | .list xs,[(true,x)]=>if xs.length < sizeLine then some (.list (xs++[x]),.none) else none
  | _,_=>none
 vV:=fun K F H d a h t=>qD h t
 ok:=fun K F H d a as vs d' x Q hf ha ht hv q=>by
  split at hf
  ·split at hf
   ·rename_i hl;cases hf;obtain ⟨v,r,rfl,hv,rfl⟩:=hv;obtain ⟨xs,ea,z,rx⟩:=ht;refine ⟨a,xs,v,rfl,rfl,ea,by rw [rx.len];exact hl,q _ _ (fun b o n e=>by rw [ag n];exact e) ⟨_,ai,by rw [Gf,rx.len];simp;omega,(rx.snoc hv).pr (me ha ea rfl) fun _ z=>z⟩ rfl⟩
   ·cases hf
  ·cases hf
noncomputable def EK:Mtr where
 T := "list"
 r:=lq
 ty:=isL
 f:=fun d as=>match d,as with
  | .list xs,[(_,.list ys)]=>if xs.length+ys.length<=sizeLine then some (.list (xs++ys),.none) else none
  | _,_=>none
 vV:=fun K F H d a h t=>qD h t
 ok:=fun K F H d a as vs d' x Q hf ha ht hv q=>by
  split at hf
  ·split at hf
   ·rename_i b ys hl;cases hf;have hv':∃ v,vs=[v]/\Vw K F H (.list ys) v:=by
     cases b with
     | true=>obtain ⟨v,r,rfl,hv,rfl⟩:=hv;exact ⟨v,rfl,hv.vw⟩
     | false=>obtain ⟨v,r,rfl,hv,rfl⟩:=hv;exact ⟨v,rfl,hv⟩
    obtain ⟨v,rfl,hv2⟩:=hv';obtain ⟨b',us,rfl,s1,z1,d1⟩:=ke hv2;obtain ⟨xs,ea,z,rx⟩:=ht;have hl':xs.length+us.length<=sizeLine:=by rw [rx.len,d1.len];exact hl
    refine ⟨a,b',xs,us,rfl,rfl,ea,s1,hl',q _ _ (fun b o n e=>by rw [ag n];exact e) ⟨_,ai,by rw [Gf];exact hl',(rx.app d1).pr (me ha ea rfl) fun _ z=>z⟩ rfl⟩
   ·cases hf
  ·cases hf
noncomputable def strsOf:List PyData->Option (List Str)
 | []=>some []
 | .str x :: r=>match strsOf r with | some xs=>some (x :: xs) | none=>none
 | _ :: _=>none
theorem jz {K:Fg} {F:Addr->Prop} {H:Hp}:∀ {ds:List PyData} {xs:List V} {ss:List Str},strsOf ds=some ss->DmL K F H ds xs->xs=ss.map V.str/\∀ s∈ss,PyData.strOk s=true
 | [],xs,bs,h,q=>by cases h;exact ⟨q,fun s z=>by cases z⟩
 | .str b :: r,xs,bs,h,q=>by
  unfold strsOf at h;split at h
  ·rename_i bs' h';cases h;obtain ⟨v,vr,rfl,h1,h2⟩:=q;obtain ⟨i1,i2⟩:=jz h' h2;refine ⟨by rw [i1,show v=.str b from h1.1];rfl,fun s z=>?_⟩;rcases Gv.mp z with rfl | z
   ·exact h1.2.2
   ·exact i2 s z
  ·cases h
 | .none :: r,xs,bs,h,q=>by cases h
 | .int _ :: r,xs,bs,h,q=>by cases h
 | .bool _ :: r,xs,bs,h,q=>by cases h
 | .list _ :: r,xs,bs,h,q=>by cases h
 | .tuple _ :: r,xs,bs,h,q=>by cases h
 | .dict _ :: r,xs,bs,h,q=>by cases h
theorem jy (g:Array Nat):∀ (ps:List Str) (acc:Array Nat),(ps.foldl (fun acc p=>acc++g++p.cps) acc).size=acc.size+(ps.map fun p=>p.length).sum+ps.length*g.size
 | [],acc=>by simp
 | p :: ps,acc=>by
  rw [HR,jy g ps];simp only [List.map_cons,List.sum_cons,GH,Array.size_append,Nat.succ_mul];show acc.size+g.size+p.cps.size+_+_=acc.size+(p.cps.size+_)+_;omega
theorem lM (z:Str) (ss:List Str):(Txt.join z ss).length<=(ss.map (·.length)).sum+ss.length*z.length:=by
 cases ss with
 | nil =>
  have:(Txt.join z []).length=0:=rfl;rw [this];exact Hn _
 | cons x r =>
  show ((r.foldl (fun acc p=>acc++z.cps++p.cps) x.cps)).size<=_;rw [jy];simp only [List.map_cons,List.sum_cons,GH,Nat.succ_mul];show x.cps.size+_+r.length*z.cps.size<=x.cps.size+_+(r.length*z.cps.size+z.cps.size);omega
theorem mz {g:Array Nat} (hg:g.all (· < 0x110000)=true):∀ (ps:List Str) (acc:Array Nat),(∀ p∈ps,PyData.strOk p=true)->acc.all (· < 0x110000)=true->(ps.foldl (fun acc p=>acc++g++p.cps) acc).all (· < 0x110000)=true
 | [],acc,_,h=>h
 | p :: ps,acc,hp,h=>by
  rw [HR];refine mz hg ps _ (fun q hq=>hp q (Gp _ hq)) ?_;rw [Array.all_append,Array.all_append,h,hg,show p.cps.all (· < 0x110000)=true from hp p Gm];rfl
theorem pE {z:Str} {ss:List Str} (hz:PyData.strOk z=true) (hs:∀ s∈ss,PyData.strOk s=true):PyData.strOk (Txt.join z ss)=true:=by
 cases ss with
 | nil=>exact aC ""
 | cons x r=>exact mz hz r _ (fun q hq=>hs q (Gp _ hq)) (hs x Gm)
noncomputable def fw (z:Str) (ss:List Str):Bool:=decide ((ss.map (·.length)).sum+ss.length*z.length<=16777216)
noncomputable def yY:PyData->List PyData->Option PR
 | .str z,[.list ds]=>match strsOf ds with | some ss=>if fw z ss=true then some (.dat (.str (Txt.join z ss))) else none | none=>none
 | .str z,[.tuple ds]=>match strsOf ds with | some ss=>if fw z ss=true then some (.dat (.str (Txt.join z ss))) else none | none=>none
 | _,_=>none
theorem ty_str {K:Fg} {F:Addr->Prop} {H:Hp} {d:PyData} {v:V} (h:isS d=true) (t:Vw K F H d v):tyV K "str" v H:=by
 cases d with
 | str x=>rw [(vStr t).1];rfl
 | _=>cases h
noncomputable def joinM:Mtd where
 T := "str"
 r:=ux
 ty:=isS
 f:=yY
 vV:=fun K F H d v h t=>ty_str h t
 ok:=fun K F H d v ds vs pr Q hf hx hv hd q=>by
  unfold yY at hf;split at hf
  ·rename_i z ds;split at hf
   ·rename_i ss hss;split at hf
    ·rename_i hok;cases hf;obtain ⟨rfl,l1,o1⟩:=vStr hx;obtain ⟨w,r,rfl,hw,rfl⟩:=hv;obtain ⟨a,us,rfl,s1,z1,d1⟩:=ke hw;obtain ⟨e,os⟩:=jz hss d1;rw [e] at s1;have hok':(ss.map (·.length)).sum+ss.length*z.length<=16777216:=by simpa [fw] using hok
     exact ⟨z,a,ss,rfl,rfl,.inl s1,hok',q _ H (ay.rf H) ⟨rfl,GU (lM z ss) hok',pE o1 os⟩⟩
    ·cases hf
   ·cases hf
  ·rename_i z ds;split at hf
   ·rename_i ss hss;split at hf
    ·rename_i hok;cases hf;obtain ⟨rfl,l1,o1⟩:=vStr hx;obtain ⟨w,r,rfl,hw,rfl⟩:=hv;obtain ⟨a,us,rfl,s1,z1,d1⟩:=qS hw;obtain ⟨e,os⟩:=jz hss d1;rw [e] at s1;have hok':(ss.map (·.length)).sum+ss.length*z.length<=16777216:=by simpa [fw] using hok
     exact ⟨z,a,ss,rfl,rfl,.inr s1,hok',q _ H (ay.rf H) ⟨rfl,GU (lM z ss) hok',pE o1 os⟩⟩
    ·cases hf
   ·cases hf
  ·cases hf
noncomputable def Fn.no (ms:List PM):Fn:=⟨ms,fun _=>none⟩
theorem tX {K:Fg} {F:Addr->Prop} {H:Hp}:∀ {ns:List Int},DmL K F H (ns.map .int) (ns.map .int)
 | []=>rfl
 | n :: ns=>⟨_,_,rfl,rfl,tX⟩
theorem zV {f:Fn} {K:Fg} {H:Hp} {a:Addr} {ns:List Int} (hm:f.ms=[.dat]) (hl:ns.length<=63) (hS:SqL K H a (ns.map V.int)) (hF:f.F [.list (ns.map .int)]=some (.dat (.bool true),[])):fK f K [.ref a] H (fun v _=>v=.bl true) fun _ _ _=>False:=by
 refine ⟨fun _=>False,[.list (ns.map .int)],[],.dat (.bool true),[],hF,?_,fun _ h=>absurd h id,fun v' H' _ r=>r.1⟩;rw [hm];refine ⟨⟨a,ns.map .int,rfl,?_,?_,tX⟩,rfl⟩
 ·rcases hS with hS | hS
  ·exact .inl ⟨id,hS⟩
  ·exact .inr hS
 ·rw [Gg];exact GU hl (by decide)
open PySem PySem.Spec PyProof.Rows
noncomputable def Bw (d:PyData):Bool:=noD d&&decide (d.depth<=32)
noncomputable def uq (ds:List PyData) (x:PyData):Bool:=ds.any fun d=>PyData.eqv d x
noncomputable def ngB (neg b:Bool):Bool:=if neg then !b else b
def Fw (neg:Bool) (K:Fg):R2:=rOr (fun x y H Q=>∃ i j,x=.str i/\y=.str j/\Q (.bl (ngB neg (!(Builtin.Str.occurrences j i 0 j.length 1).isEmpty))) H)
 fun x y H Q=>∃ (p:Addr) (xs:List V) (F:Addr->Prop) (d:PyData) (ds:List PyData),y=.ref p/\(SqL K H p xs\/SqT K H p xs)/\Vw K F H d x/\DmL K F H ds xs/\Bw d=true/\dN ds=true/\Q (.bl (ngB neg (uq ds d))) H
noncomputable def inD (neg:Bool):PyData->PyData->Option PR
 | .str i,.str j=>some (.dat (.bool (ngB neg (!(Builtin.Str.occurrences j i 0 j.length 1).isEmpty))))
 | x,.list ds=>if Bw x=true/\dN ds=true then some (.dat (.bool (ngB neg (uq ds x)))) else none
 | x,.tuple ds=>if Bw x=true/\dN ds=true then some (.dat (.bool (ngB neg (uq ds x)))) else none
 | _,_=>none
noncomputable def Ga (neg:Bool):Prm:=Prm.two (Fw neg) (inD neg) fun K F H x y u v pr Q hf hx hy hd q=>by
 unfold inD at hf;split at hf
 ·cases hf;exact .inl ⟨_,_,(vStr hx).1,(vStr hy).1,q _ H (ay.rf H) rfl⟩
 ·split at hf
  ·rename_i h;cases hf;obtain ⟨a,us,rfl,s1,z1,d1⟩:=ke hy;exact .inr ⟨a,us,F,_,_,rfl,.inl s1,hx,d1,h.1,h.2,q _ H (ay.rf H) rfl⟩
  ·cases hf
 ·split at hf
  ·rename_i h;cases hf;obtain ⟨a,us,rfl,s1,z1,d1⟩:=qS hy;exact .inr ⟨a,us,F,_,_,rfl,.inr s1,hx,d1,h.1,h.2,q _ H (ay.rf H) rfl⟩
  ·cases hf
 ·cases hf
noncomputable abbrev inP:Prm:=Ga false
open Classical in
noncomputable def eqR (h:Heap) (x:PyData) (u:Value):Bool:=if q:∃ d as,Reads h u d as then PyData.eqv (Classical.choose q) x else false
theorem uc {h:Heap} {x d:PyData} {u:Value} {as:List Addr} (r:Reads h u d as):eqR h x u=PyData.eqv d x:=by
 have q:∃ d as,Reads h u d as:=⟨d,as,r⟩;unfold eqR;rw [dif_pos q];obtain ⟨bs,r2⟩:=Classical.choose_spec q;rw [(PySem.Reads.unique r _ _ r2).1]
section
variable {X:Cx} {pins:List (Addr×Obj)} {σ:St} {s:Shared} {H:Hp} {F:Addr->Prop}
theorem kZ (I:Inv X pins σ H s) (x:PyData):∀ {ds:List PyData} {xs:List V} {us:List Value},DmL X.K F H ds xs->dN ds=true->Vals xs us->us.any (eqR s.heap x)=uq ds x
 | [],xs,us,h,_,r=>by rw [show xs=[] from h] at r;cases r;rfl
 | d :: ds,xs,us,h,n,r=>by
  obtain ⟨v,t,rfl,h1,h2⟩:=h;have n':noD d=true/\dN ds=true:=by simpa [dN] using n
  cases r with
  | cons r1 r2 =>
   obtain ⟨as,ra⟩:=h1.reads I n'.1 r1;rw [List.any_cons,uc ra,kZ I x h2 n'.2 r2];rfl
theorem k6 (I:Inv X pins σ H s) {A:Around} {x:PyData} {b:Value} {bs:List Addr} (rb:Reads s.heap b x bs) (hb:x.canLay0=true) (hu:A.units+x.depth < cLine):∀ {ds:List PyData} {xs:List V} {us:List Value},DmL X.K F H ds xs->dN ds=true->Vals xs us->∀ u∈us,SeqAt.EqAt A s u b (eqR s.heap x u)
 | [],xs,us,h,_,r=>by rw [show xs=[] from h] at r;cases r;intro u hu;cases hu
 | d :: ds,xs,us,h,n,r=>by
  obtain ⟨v,t,rfl,h1,h2⟩:=h;have n':noD d=true/\dN ds=true:=by simpa [dN] using n
  cases r with
  | cons r1 r2 =>
   intro u hm;rcases Gv.mp hm with rfl | hm
   ·obtain ⟨as,ra⟩:=h1.reads I n'.1 r1;rw [uc ra];exact SeqAt.eqAt_reads d x A s _ b as bs ra rb (h1.lay n'.1) hb (by omega)
   ·exact k6 I rb hb hu h2 n'.2 r2 u hm
end
theorem gL {X:Cx} (hu:X.A.units+64 < cLine):OpR X (compareOp .In) (fun x y=>inP.r X.K [x,y]):=by
 refine orR AI ?_;intro pins s σ H x y v u Q I rx ry h;obtain ⟨p,xs,F,d,ds,rfl,hq,hd,hs,o1,o2,q⟩:=h;have o1':noD d=true/\d.depth<=32:=by simpa [Bw] using o1
 cases ry;obtain ⟨bs,rb⟩:=hd.reads I o1'.1 rx;rcases hq with hq | hq
 ·obtain ⟨its,r,pl,hz⟩:=I.list hq;refine SeqAt.in_listAt (eqR s.heap d) pl.isList (fun w hw=>k6 I rb (hd.lay o1'.1) (by have:X.A.in1.units=X.A.units+1:=rfl;omega) hs o2 r w (by simpa using hw)) ⟨.bl _,H,I,rfl,?_⟩;rw [show its.toArray.any (eqR s.heap d)=its.any (eqR s.heap d) by simp,kZ I d hs o2 r];exact q
 ·obtain ⟨its,r,pl,hz⟩:=I.tuple hq;refine SeqAt.in_tupleAt (eqR s.heap d) pl (fun w hw=>k6 I rb (hd.lay o1'.1) (by have:X.A.in1.units=X.A.units+1:=rfl;omega) hs o2 r w (by simpa using hw)) ⟨.bl _,H,I,rfl,?_⟩;rw [show its.toArray.any (eqR s.heap d)=its.any (eqR s.heap d) by simp,kZ I d hs o2 r];exact q
theorem bN.no {P:Program} {w:World} {K:Fg} {mg:Str->Option Value} {base:Heap} {k:Nat} {f:Addr} {fd:FuncData} {ps:List Str} {sp:Sp} {x qual:Str} {st:Stmt} {N:List Str} (F:Fun K x qual st f fd) (S:aq N ps (aa st)) (h:∀ vs H Q E,¬sp vs H Q E):bN P w K mg base CX0 (k+1) f fd ps sp :=
 F.okJ S (fun vs H Q E z=>(h vs H Q E z).elim) (fun cdv A outer s H vs Q E hr z=>(h vs H Q E z).elim)
open PySem PySem.Spec PyProof.Rows
noncomputable def dU (ww:World):Bool:=ww.params.followText "set-order"
structure vH (ww:World) (tb:SetTable) (n:Nat):Prop where
 fit:tb.fits n=true
 led:tb.led=!dU ww
 pln:n≠0->tb.plain=false
theorem jh (tb:SetTable) (n:Nat):(tb.orStandIn n).led=tb.led:=by
 unfold SetTable.orStandIn;split <;> rfl
theorem wC (tb:SetTable) (es:Array (Int×Value)) (hs:Int) (x:Value):(layNew tb es hs x).2.1.led=tb.led:=by
 unfold layNew;cases q:tb.freeSlot hs with
 | none=>rfl
 | some p =>
  obtain ⟨sl,wd⟩:=p;exact jh _ _
theorem oj (tb:SetTable) (es:Array (Int×Value)) (k:Nat):(relayAll tb es k).2.1.led=tb.led/\(tb.plain=false->(relayAll tb es k).2.1.plain=false):=by
 unfold relayAll;cases q:tb.relaid (es.map (·.1)) k with
 | none=>exact ⟨rfl,fun _=>rfl⟩
 | some p =>
  obtain ⟨t2,ord⟩:=p;dsimp only;split
  ·unfold SetTable.relaid SetTable.laid at q;cases ho:SetTable.layClean (SetTable.sizeAbove k - 1) (es.map (·.1)) with
   | none=>rw [ho] at q;cases q
   | some ow =>
    rw [ho] at q;simp only [Option.bind_eq_bind,Option.bind_some,Option.pure_def,Jo,Prod.mk.injEq] at q;obtain ⟨rfl,_⟩:=q;exact ⟨rfl,fun z=>z⟩
  ·exact ⟨rfl,fun _=>rfl⟩
def cw (pr:Program) (ww:World) (h:Heap) (a:Addr) (ss:List Str):Prop :=
 ∃ ob es ep tb,h.get? a=some ob/\ob.ExactSet/\ob.data=.set es ep tb/\ElemsOf (strKind pr ww) es.toList/\(∃ zs,StrsAre (es.toList.map (·.2)) zs/\zs.Perm ss)/\es.size < scanBound/\vH ww tb es.size
noncomputable def jn (ss:List Str) (x:Str):List Str:=if x∈ss then ss else ss++[x]
theorem lK {x:Str}:∀ {es:List (Int×Value)} {zs:List Str},StrsAre (es.map (·.2)) zs->((∃ e∈es,Value.isStrOf x e.2=true)↔x∈zs)
 | [],[],_=>by simp
 | e :: es,_,h=>by
  obtain ⟨hs,v⟩:=e;rw [List.map_cons] at h;cases h with
  | cons y tk h =>
   have ih:=lK (x:=x) h;have hd:Value.isStrOf x (.str y tk)=true↔x=y:=by
    constructor
    ·intro q;obtain ⟨_,q⟩:=Value.isStrOf_shape q;injection q with q _;exact q.symm
    ·rintro rfl;simp [Value.isStrOf]
   simp only [Gv,exists_eq_or_imp];rw [ih];exact or_congr hd Iff.rfl
theorem bU:∀ {us vs:List Value},us.Perm vs->∀ {zs:List Str},StrsAre vs zs->∃ ws,StrsAre us ws/\ws.Perm zs
 | _,_,.nil,zs,h=>by cases h;exact ⟨[],.nil,.nil⟩
 | _,_,.cons v p,zs,h=>by
  cases h with
  | cons y tk h =>
   obtain ⟨ws,a,b⟩:=bU p h;exact ⟨y :: ws,.cons y tk a,.cons y b⟩
 | _,_,.swap v u l,zs,h=>by
  cases h with
  | cons y tk h =>
   cases h with
   | cons z tk' h=>exact ⟨_,.cons z tk' (.cons y tk h),.swap _ _ _⟩
 | _,_,.trans p q,zs,h=>by
  obtain ⟨ws,a,b⟩:=bU q h;obtain ⟨vs,c,d⟩:=bU p a;exact ⟨vs,c,d.trans b⟩
theorem strs_snoc {x:Str} {tk:Tok}:∀ {us:List Value} {zs:List Str},StrsAre us zs->StrsAre (us++[.str x tk]) (zs++[x])
 | _,_,.nil=>.cons x tk .nil
 | _,_,.cons y t h=>.cons y t (strs_snoc h)
theorem bH:∀ {us:List Value} {zs:List Str},StrsAre us zs->us.length=zs.length
 | _,_,.nil=>rfl
 | _,_,.cons y t h=>by rw [GH,GH,bH h]
section
variable {pr:Program} {ww:World} {AA:Around} {EE:Value->Shared->Prop} {st:Shared}
theorem cw.size {h:Heap} {a:Addr} {ss:List Str} (z:cw pr ww h a ss):∃ ob es ep tb,h.get? a=some ob/\ob.data=.set es ep tb/\es.size=ss.length:=by
 obtain ⟨ob,es,ep,tb,h1,_,h2,_,⟨zs,h3,h4⟩,_⟩:=z;refine ⟨ob,es,ep,tb,h1,h2,?_⟩;have:=bH h3;rw [Gg,GN] at this;rw [this,h4.length_eq]
theorem nN {a:Addr} {ob:Obj} {es es':Array (Int×Value)} {ep:Nat} {tb tb':SetTable} {ss:List Str} {h:Heap} (ho:h.get? a=some ob) (hx:ob.ExactSet) (hd:ob.data=.set es ep tb)
  (he:ElemsOf (strKind pr ww) es'.toList) (hz:∃ zs,StrsAre (es'.toList.map (·.2)) zs/\zs.Perm ss) (hb:es'.size < scanBound) (ht:vH ww tb' es'.size) :
  (h.update a (Obj.putSet es' tb')).get? a=some { ob with data:=.set es' (ep+1) tb' }/\cw pr ww (h.update a (Obj.putSet es' tb')) a ss:=by
 have hg:(h.update a (Obj.putSet es' tb')).get? a=some { ob with data:=.set es' (ep+1) tb' }:=by
  have q:=HU (Obj.putSet es' tb') ho (by rw [putSet_of es' tb' hd];rfl);rw [putSet_of es' tb' hd] at q;exact q
 exact ⟨hg,_,es',ep+1,tb',hg,hx,rfl,he,hz,hb,ht⟩
theorem uL {gg:Bool->Sem Unit} (hg:∀ (b:Bool) (s1:Shared) (Q':Unit->Shared->Prop),Q' () s1->wpAny (model pr ww) AA (gg b) Q' EE s1)
  {a:Addr} {ob:Obj} {es e1:Array (Int×Value)} {ep:Nat} {tb t2:SetTable} {ss:List Str} {wd:Bool} {RR:Option Bool->Shared->Prop} (ho:st.heap.get? a=some ob) (hx:ob.ExactSet) (hd:ob.data=.set es ep tb)
  (he:ElemsOf (strKind pr ww) e1.toList) (hz:∃ zs,StrsAre (e1.toList.map (·.2)) zs/\zs.Perm ss) (hb:e1.size < scanBound) (ht:vH ww t2 e1.size) (hp:t2.plain=false)
  (h:∀ h',Heap.SameBut a st.heap h'->cw pr ww h' a ss->RR (some true) { st with heap:=h' }) :
  wpAny (model pr ww) AA (do
    storeSet a e1 t2
    if (!wd&&t2.tooFull)=true then do
      gg (relayAll t2 e1 (SetTable.grown e1.size)).2.2
      storeSet a (relayAll t2 e1 (SetTable.grown e1.size)).1 (relayAll t2 e1 (SetTable.grown e1.size)).2.1
      pure (some true)
     else pure (some true)) RR EE st:=by
 refine Ge (wpAny_storeSet_of ho hd ?_ (Jn hb));obtain ⟨ho1,hS1⟩:=nN (pr:=pr) (ww:=ww) ho hx hd he hz hb ht;have sb:=Heap.SameBut.update st.heap a (Obj.putSet e1 t2);split
 ·have pm:=relayAll_perm t2 e1 (SetTable.grown e1.size);have ft:=relayAll_fits t2 e1 (SetTable.grown e1.size);have ld:=oj t2 e1 (SetTable.grown e1.size);generalize relayAll t2 e1 (SetTable.grown e1.size)=Y at pm ft ld ⊢;obtain ⟨e2,t3,gv⟩:=Y;dsimp only at pm ft ld ⊢;have sz:e2.size=e1.size:=by rw [<- GN,pm.length_eq,GN]
  have hb2:e2.size < scanBound:=by rw [sz];exact hb
  have hz2:∃ zs,StrsAre (e2.toList.map (·.2)) zs/\zs.Perm ss:=by
   obtain ⟨zs,z1,z2⟩:=hz;obtain ⟨ws,w1,w2⟩:=bU (pm.map (·.2)) z1;exact ⟨ws,w1,w2.trans z2⟩
  refine Ge (hg _ _ _ ?_);refine Ge (wpAny_storeSet_of ho1 rfl ?_ (Jn hb2));obtain ⟨_,hS2⟩:=nN (pr:=pr) (ww:=ww) (tb':=t3) ho1 hx rfl (he.perm pm) hz2 hb2 ⟨ft,ld.1.trans ht.led,fun _=>ld.2 hp⟩;exact Gi (h _ (sb.trans (Heap.SameBut.update _ a _)) hS2)
 ·exact Gi (h _ sb hS1)
theorem CF {a:Addr} {ss:List Str} {x:Str} {tk:Tok} {Q:Bool->Shared->Prop} (hS:cw pr ww st.heap a ss) (room:ss.length+1 < scanBound)
  (h:∀ b h',Heap.SameBut a st.heap h'->cw pr ww h' a (jn ss x)->Q b { st with heap:=h' }) :
  wpAny (model pr ww) AA (setAddHashed a (.str x tk) (hashStr ww x)) Q EE st:=by
 obtain ⟨ob,es,ep,tb,ho,hx,hd,he,⟨zs,hz1,hz2⟩,hb,ht⟩:=hS;have key:(strKind pr ww).is x (.str x tk)=true:=by show Value.isStrOf x (.str x tk)=true;simp [Value.isStrOf]
 have sc:(Value.str x tk).scannable=true:=rfl;have sz:es.size=ss.length:=by
  have:=bH hz1;rw [Gg,GN] at this;rw [this,hz2.length_eq]
 unfold setAddHashed setAddHashedIn;refine Hv (Ge (HH ho hd ht.fit ?_));dsimp only;rw [byScan_of sc hb he];simp only [↓reduceIte];unfold setAddByScan;refine Ge ?_;refine Ge (Iw ?_);refine Ge (wpAny_setScan_of (knd:=strKind pr ww) (k:=x) key ho hd ht.fit he ?_);have mem:(∃ e∈es.toList,Value.isStrOf x e.2=true)↔x∈ss:=(lK hz1).trans hz2.mem_iff;cases hr:List.findIdx? (fun e:Int×Value=>(strKind pr ww).is x e.2) es.toList with
 | some j =>
  dsimp only;obtain ⟨hj,hpj,_⟩:=List.findIdx?_eq_some_iff_getElem.mp hr;have hin:x∈ss:=mem.mp ⟨es.toList[j],IH hj,hpj⟩;refine Gi (Gi ?_);have q:=h false st.heap (Heap.SameBut.refl a st.heap) ⟨ob,es,ep,tb,ho,hx,hd,he,⟨zs,hz1,by unfold jn;rw [Gs hin];exact hz2⟩,hb,ht⟩;cases st;exact q
 | none =>
  dsimp only;have hin:x ∉ ss:=fun hh=>by
   obtain ⟨e,hm,hp⟩:=mem.mpr hh;have:=List.findIdx?_eq_none_iff.mp hr e hm;rw [show (strKind pr ww).is x e.2=true from hp] at this;cases this
  have gw:∀ (b:Bool) (s1:Shared) (Q':Unit->Shared->Prop),Q' () s1->wpAny (model pr ww) AA (match b with | true=>rule "set.scan.the-table-gave-way" | false=>pure ()) Q' EE s1 :=
   fun b s1 Q' hq=>by cases b <;> first | exact Gi hq | exact Iw hq
  have pm:=layNew_perm tb es (hashStr ww x) (.str x tk);have ft:=layNew_fits tb es (hashStr ww x) (.str x tk);have ld:=wC tb es (hashStr ww x) (.str x tk);have hkk:(strKind pr ww).hash x=hashStr ww x:=rfl;generalize layNew tb es (hashStr ww x) (.str x tk)=Y at pm ft ld ⊢;obtain ⟨e1,t1,wd,gv⟩:=Y;dsimp only at pm ft ld ⊢;rw [IV] at pm;have he1:ElemsOf (strKind pr ww) e1.toList:=(he.push key sc).perm pm;have sz1:e1.size=ss.length+1:=by rw [<- GN,pm.length_eq,Gf,GN,sz];rfl
  have hz':∃ zs,StrsAre (e1.toList.map (·.2)) zs/\zs.Perm (jn ss x):=by
   have p2:=pm.map (·.2);rw [Hi] at p2;obtain ⟨ws,w1,w2⟩:=bU p2 (strs_snoc (x:=x) (tk:=tk) hz1);refine ⟨ws,w1,w2.trans ?_⟩;unfold jn;rw [Gy hin];exact hz2.append_right _
  have hb1:e1.size < scanBound:=by rw [sz1];exact room
  refine Ge (gw _ _ _ ?_);split
  ·refine Ge ?_;rw [hashByValue_scannable 8 sc];refine Gi ?_;refine uL (gg:=fun b=>match b with | true=>rule "set.scan.the-table-gave-way" | false=>pure ()) gw ho hx hd he1 hz' hb1 (t2:={ t1 with plain:=false }) ⟨SetTable.fits_plain_off ft,ld.trans ht.led,fun _=>rfl⟩ rfl ?_;intro h' sb hS';dsimp only;exact Gi (h _ h' sb hS')
  ·rename_i npl;have npl:t1.plain=false:=by simpa using npl
   refine Ge (Gi ?_);simp only [↓reduceIte];refine uL (gg:=fun b=>match b with | true=>rule "set.scan.the-table-gave-way" | false=>pure ()) gw ho hx hd he1 hz' hb1 (t2:=t1) ⟨ft,ld.trans ht.led,fun _=>npl⟩ npl ?_;intro h' sb hS';dsimp only;exact Gi (h _ h' sb hS')
end
open PySem PySem.Spec PyProof.Rows
noncomputable def rm (val:Nat->Str) (i:Nat):List Str:=((List.range i).map val).foldl jn []
theorem jt (val:Nat->Str) (i:Nat):rm val (i+1)=jn (rm val i) (val i):=by
 unfold rm;rw [List.range_succ,Hi,List.foldl_append];rfl
theorem mw (val:Nat->Str):∀ i,(rm val i).length<=i
 | 0=>Gu _
 | i+1=>by
  have ih:=mw val i;rw [jt];unfold jn;split
  ·omega
  ·rw [Gf];show _+1<=_;omega
section
variable {pr:Program} {ww:World} {AA:Around} {RR:Result->Shared->Prop} {IT:Addr} {fp wr:List Addr} {GG:Array GenState->Array GenState->Prop} {n:Nat} {PP:Nat->Value->Prop} {SS:Nat->Shared->Prop}
theorem cw.at {h h':Heap} {a:Addr} {ss:List Str} (z:cw pr ww h a ss) (k:∀ o,h.get? a=some o->h'.get? a=some o):cw pr ww h' a ss:=by
 obtain ⟨ob,es,ep,tb,ho,r⟩:=z;exact ⟨ob,es,ep,tb,k _ ho,r⟩
theorem B4 (W:WalksS pr ww AA.in1 IT fp wr GG n PP SS) (a:Addr) (ha:a ∉ fp) (val:Nat->Str) (hv:∀ i v,PP i v->∃ t,v=.str (val i) t) (hb:n+1 < scanBound) :
  ∀ (k i:Nat) (s:Shared),n - i=k->i<=n->SS i s->cw pr ww s.heap a (rm val i) ->
   (∀ s',Moved (a :: wr) GG s s'->cw pr ww s'.heap a (rm val n)->RR (.ok (.ret .none)) s') ->
   codeAny (model pr ww) AA (.builtin "set.update.loop" ⟨[.ref a,.ref IT],[]⟩) RR s:=by
 have haw:a ∉ wr:=fun z=>ha (W.sub _ z);have hsb:∀ b∈wr,b∈a :: wr:=fun b z=>Gp _ z;intro k;induction k with
 | zero =>
  intro i s hk hi hst hS hR;obtain rfl:i=n:=by omega
  refine HQ Jt ?_;rw [HN Il _];show wpAny _ AA.in1 (pyNext (.ref IT)>>=_) _ _ s;refine Ge (W.done s _ _ hst fun s' hm=>?_);exact Gi (hR s' (hm.mono hsb) (hS.at fun o q=>hm.heap a _ haw q))
 | succ k ih =>
  intro i s hk hi hst hS hR;have hlt:i < n:=by omega
  refine HQ Jt ?_;rw [HN Il _];show wpAny _ AA.in1 (pyNext (.ref IT)>>=_) _ _ s;refine Ge (W.item i s _ _ hlt hst fun v s' hP hst' hm=>?_);obtain ⟨t,rfl⟩:=hv i v hP;have hS':cw pr ww s'.heap a (rm val i):=hS.at fun o q=>hm.heap a _ haw q;show wpAny _ AA.in1 (holding [Value.str (val i) t] (setAdd a (.str (val i) t))>>=_) _ _ s';refine Ge (Hv ?_);unfold setAdd;refine Hv ?_;refine Ge ((strKind pr ww).pyHash (k:=val i) (by show Value.isStrOf (val i) (.str (val i) t)=true;simp [Value.isStrOf]) ?_);refine CF (st:={ s' with toks:=s'.toks+1 }) hS' (by have:=mw val i;omega) fun bb h' hsm hS2=>?_;rw [<- jt] at hS2;refine Gi ⟨Ja Il _,ih (i+1) _ (by omega) hlt (W.frame _ s' _ _ hst' (HW _) fun b hb o e=>?_) hS2 fun s'' hm'' hS''=>?_⟩
  ·rw [hsm.2 b (fun z:b=a=>ha (by rw [<- z];exact hb))];exact e
  ·refine hR s'' (Moved.trans W.gtrans ((hm.mono hsb).then_heap (HW _) fun b o hb e=>?_) hm'') hS'';rw [hsm.2 b (fun z:b=a=>hb (by rw [z];exact Gm))];exact e
end
theorem qH:∀ {us:List Value} {zs:List Str},StrsAre us zs->∀ (i:Nat) (v:Value),us[i]?=some v->∃ t,v=.str (zs.getD i Str.empty) t
 | _,_,.nil,i,v,h=>by simp at h
 | _,_,.cons y t h,0,v,q=>by
  simp only [List.getElem?_cons_zero,Jo] at q;exact ⟨t,q.symm⟩
 | _,_,.cons y t h,i+1,v,q=>by
  simp only [List.getElem?_cons_succ] at q;exact qH h i v q
theorem map_getD (ss:List Str):(List.range ss.length).map (fun i=>ss.getD i Str.empty)=ss:=by
 apply List.ext_getElem
 ·simp
 ·intro i h1 h2;simp [h2]
section
variable {pr:Program} {ww:World} {AA:Around} {EE:Value->Shared->Prop} {st:Shared}
noncomputable abbrev bx (ww:World):Obj:={ cls:=.type "set", dict:=none,data:=.set #[] 0 (.fresh 0 0 (!dU ww)) }
theorem zj (v:Value) {Q:Value->Shared->Prop} (h:Q (.ref st.heap.objs.size) { st with heap:=st.heap.push (bx ww) }) :
  codeAny (model pr ww) AA (.call (.builtin "set.__new__") ⟨[.type "set", v],[]⟩) (wants Q EE) st:=by
 refine codeAny_of_tree ?_;show wpAny _ AA.in1 (do checkBuiltinCall "set.__new__" ⟨[.type "set", v],[]⟩;again (.builtin "set.__new__" ⟨[.type "set", v],[]⟩)) _ _ st;refine Ge (wpAny_of_eq (F.newCall_set_1 v) (Gi ⟨Ja F.plain_set_new _,HQ F.entry_set_new ?_⟩));rw [HN F.plain_set_new _];unfold Builtin.«set.__new__» Builtin.Frozenset.newClass
 have hsub:=sub_set_self;obtain ⟨h0,g0,d0,t0,o0⟩:=st;dsimp only at h ⊢
 wp_walk
 refine wpAny_askSetting (Gi ?_);dsimp only;simp only [newObj];refine Ge (wpAny_alloc (Gi ?_));exact Gi h
theorem vY {h:Heap} {a:Addr} (hg:h.get? a=some (bx ww)):cw pr ww h a [] :=
 ⟨_,#[],0,_,hg,⟨rfl,rfl,rfl⟩,rfl,fun e he=>by simp at he,⟨[],.nil,.nil⟩,by decide,⟨rfl,rfl,fun z=>absurd rfl z⟩⟩
theorem oY {l:Addr} {its:Array Value} {ss:List Str} {Q:Value->Shared->Prop} (hh:AA.handled=none) (hl:st.heap.IsList l its) (hi:StrsAre its.toList ss) (hb:its.size+1 < scanBound)
  (h:∀ (h':Heap) (tk:Nat),cw pr ww h' st.heap.objs.size (ss.foldl jn [])->(∀ b o,b < st.heap.objs.size->st.heap.get? b=some o->h'.get? b=some o)->Q (.ref st.heap.objs.size) { st with heap:=h',toks:=tk }) :
  wpAny (model pr ww) AA (call (.type "set") [.ref l]) Q EE st:=by
 obtain ⟨cc,tl,hmro⟩:=F.called_set.mro;have hmade:=F.called_set.made;have hsub:=F.called_set.sub;refine wpAny_call (codeAny_of_tree ?_);show wpAny _ _ (callAny (.type "set") _) _ _ _;refine Gi ⟨Code.quiet_builtin _ (by decide +kernel),HQ F.entry_type_call ?_⟩;rw [Around.under_plain (weight_type_call_type "set" [.ref l] []) rfl];have h1:=F.called_set.notType;have h2:=F.called_set.canCreate;have hct:=F.typeCall_set_1 (.ref l)
 repeat (any_goals (first | assumption | wp_step))
 refine Jf (zj (.ref l) (EE:=EE) (Q:=fun obj s1=>obj=.ref st.heap.objs.size/\s1={ st with heap:=st.heap.push (bx ww) }) ⟨rfl,rfl⟩) fun r s1 hr=>?_;cases r with
 | error e=>exact hr
 | ok fl =>
  cases fl with
  | ret obj =>
   obtain ⟨rfl,rfl⟩:=hr;have hS:(st.heap.push (bx ww)).get? st.heap.objs.size=some (bx ww):=GR _ rfl;have hT:Shared.TypeIs { st with heap:=st.heap.push (bx ww) } (.ref st.heap.objs.size) "set" := ⟨_,hS,rfl⟩;have hli:=F.called_set.init.lookup;have hbi:=F.called_set.init.bind (.ref st.heap.objs.size)
   repeat (any_goals (first | assumption | wp_step))
   refine Jf (codeAny_call_builtin (R:=wants (fun r s2=>r=.none/\∃ h' tk,s2={ st with heap:=h',toks:=tk }/\cw pr ww h' st.heap.objs.size (ss.foldl jn []) /\
     (∀ b o,b < st.heap.objs.size->st.heap.get? b=some o->h'.get? b=some o)) EE) F.called_set.init.plain F.entry_set_init (check_set_init_1 hT ?_)) fun r2 s2 hr2=>?_
   ·obtain ⟨ol,hol,hcl,nl,hdl⟩:=hl;obtain ⟨c1,c2,c3,c4⟩:=ol;simp only at hcl hdl;subst hcl;subst hdl;have hol2:(st.heap.push (bx ww)).get? l=some { cls:=.type "list", dict:=c2,data:=.seq its nl,slots:=c4 }:=Gq _ hol;have hsls:=F.sub_list_set;have hslf:=F.sub_list_frozenset;have hne:(Value.type "list" == Value.type "dict")=false:=by decide
    have hl1:(st.heap.push (bx ww)).IsList l its:=⟨_,hol2,rfl,nl,rfl⟩;unfold Builtin.«set.__init__» noKeywords Builtin.Frozenset.updateFrom
    generalize hPI:pyIter=PI
    wp_walk
    subst hPI;refine wpAny_pyIter_list hl1 ?_;refine Ge (wpAny_runValue ?_);have hlS:l < st.heap.objs.size:=GA hol;have hh3:AA.in1.in1.in1.handled=none:=by simp [hh]
    have sz1:(st.heap.push (bx ww)).objs.size=st.heap.objs.size+1:=IU ..;have hneI:l≠(st.heap.push (bx ww)).objs.size:=by rw [sz1];exact GK (Hj hlS)
    have hSf:st.heap.objs.size ∉ [(st.heap.push (bx ww)).objs.size,l]:=by
     rw [sz1];simp only [Gv,Gn,IY,HL,not_or];exact ⟨GK (Ia _),IF hlS⟩
    have hval:∀ (i:Nat) (v:Value),its[i]?=some v->∃ t,v=.str ((fun i=>ss.getD i Str.empty) i) t:=fun i v hv=>qH hi i v (by rw [Hz];exact hv);have hmet:rm (fun i=>ss.getD i Str.empty) its.size=ss.foldl jn []:=by
     have e1:its.size=ss.length:=by rw [<- bH hi,GN]
     rw [e1];unfold rm;rw [map_getD]
    refine B4 ((Walks.list hh3 _ l hneI its).toS) st.heap.objs.size hSf (fun i=>ss.getD i Str.empty) hval hb (its.size - 0) 0 _ (by omega) (Hn _)
     ⟨⟨_,GR _ rfl,rfl,rfl⟩,(hl1.push _)⟩ (vY (Gq _ hS)) ?hR
    intro s' hm hS';rw [hmet] at hS';obtain ⟨h',g',d',tk',os'⟩:=s';have eg:g'=st.gens:=hm.gens;have ed:d'=st.drawn:=hm.drawn;have eo:os'=st.os:=hm.os;subst eg;subst ed;subst eo;show wpAny _ _ _ _ _ _;refine Gi ?_;show wpAny _ _ (ret Value.none) _ _ _;refine Gi ⟨rfl,h',tk',rfl,hS',fun b o hb e=>?_⟩;have hb1:b≠st.heap.objs.size:=GK hb;have hb2:b≠(st.heap.push (bx ww)).objs.size:=by rw [sz1];exact GK (Hj hb)
    exact hm.heap b o (by simp only [Gv,Gn,IY,HL,not_or];exact ⟨hb1,hb2⟩) (Gq _ (Gq _ e))
   ·cases r2 with
    | error e=>exact hr2
    | ok fl2 =>
     cases fl2 with
     | ret r =>
      obtain ⟨rfl,h',tk,rfl,hS',hk'⟩:=hr2
      repeat (any_goals (first | assumption | wp_step))
      exact h _ _ hS' hk'
     | _=>exact hr2.elim
  | _=>exact hr.elim
end
open PySem PySem.Spec PyProof.Rows
namespace SF
theorem dB:Slot "set_iterator" "__next__" "set_iterator.__next__" :=
 .of (owner := "set_iterator") (n := "__next__") (by rw [typeLookup_type,builtinLookup_eq_fast];kernel_rfl) (by decide +kernel) (by decide +kernel) (by decide +kernel) (by first | exact .inl (by decide +kernel) | exact .inr (by decide +kernel)) (by rw [isSubtype_type];kernel_rfl)
theorem og:entryFor table "set_iterator.__next__" = some Builtin.«set_iterator.__next__»:=entryFor_of_tree (by kernel_rfl)
theorem o4 (v:Value):argsOk "set_iterator.__next__" ⟨[v],[]⟩:=by kernel_rfl
theorem wL:entryFor table "set.__iter__" = some Builtin.«frozenset.__iter__»:=entryFor_alias (id' := "frozenset.__iter__") (by kernel_rfl) rfl (by decide +kernel) (by kernel_rfl)
theorem nX:typeLookup (.type "set") "__len__" = pure (some (.builtin "set.__len__")):=by rw [typeLookup_type,builtinLookup_eq_fast];kernel_rfl
end SF
theorem Du {M:Model} {AA:Around} {EE:Value->Shared->Prop} {st:Shared} {src:Source} {n:Nat} {Q:Nat->Shared->Prop} (hn:n≠0) (h:∀ k d',k < n->Q k { st with drawn:=d' }):wpAny M AA (choose src n) Q EE st:=fun _ _ _=>by
 unfold choose;exact ⟨hn,h _ _ (Nat.mod_lt _ (Nat.pos_of_ne_zero hn))⟩
theorem eR {α:Type}:∀ (xs:List α) (i:Nat) (h:i < xs.length),(xs[i] :: xs.eraseIdx i).Perm xs
 | x :: xs,0,h=>by simp
 | x :: xs,i+1,h=>by
  have ih:=eR xs i (by simpa using h);simp only [List.getElem_cons_succ,List.eraseIdx_cons_succ];exact (List.Perm.swap _ _ _).trans (ih.cons x)
theorem qM {α:Type} {M:Model} {AA:Around} {EE:Value->Shared->Prop}:∀ (n:Nat) (xs:List α) {st:Shared} {Q:List α->Shared->Prop},xs.length=n->(∀ ys d',ys.Perm xs->Q ys { st with drawn:=d' })->wpAny M AA (drawOrder n xs) Q EE st
 | 0,xs,st,Q,hn,h=>by
  obtain rfl:xs=[]:=List.length_eq_zero_iff.mp hn;unfold drawOrder;have q:=h [] st.drawn .nil;cases st;exact Gi q
 | n+1,[],st,Q,hn,h=>by simp at hn
 | n+1,x :: xs,st,Q,hn,h=>by
  unfold drawOrder;refine Ge (Du (by simp) fun k d' hk=>?_);have hk':(x :: xs)[k]?=some (x :: xs)[k]:=Gd hk;rw [hk'];dsimp only;refine Ge (qM n _ (by rw [List.length_eraseIdx_of_lt hk,hn];rfl) fun ys d2 hp=>?_);refine Gi (h _ d2 ?_);exact (hp.cons _).trans (eR _ _ hk)
theorem qe {α:Type} (nx:Nat->Nat):∀ (f k:Nat) (left:List α) (out:Array α),left.length=f->(pickOrder.go nx f k left out).toList.Perm (out.toList++left)
 | 0,k,left,out,h=>by
  obtain rfl:left=[]:=List.length_eq_zero_iff.mp h;unfold pickOrder.go;simp
 | f+1,k,left,out,h=>by
  unfold pickOrder.go;have hlt:nx k % left.length < left.length:=Nat.mod_lt _ (by omega);rw [Gd hlt];dsimp only;refine (qe nx f (k+1) _ _ (by rw [List.length_eraseIdx_of_lt hlt,h];rfl)).trans ?_;rw [IV,GI];exact (eR _ _ hlt).append_left _
theorem ot {α:Type} (nx:Nat->Nat) (xs:Array α):(pickOrder nx xs).toList.Perm xs.toList:=by
 unfold pickOrder;have:=qe nx xs.size 0 xs.toList #[] (by simp);simpa using this
theorem uv (j:Nat):SetTable.below #[j] 0=0/\SetTable.below #[j] (j+1)=1:=by
 unfold SetTable.below;constructor
 ·show SetTable.below.go #[j] 0 1 0 1=0;simp [SetTable.below.go]
 ·show SetTable.below.go #[j] (j+1) 1 0 1=1;simp [SetTable.below.go]
abbrev zg (f0:Value) (i:Nat) (d:Value) (n ep:Nat):Obj:={ cls:=.type "set_iterator", dict:=none,data:=.fields #[f0,.int i 0,d,.int n 0,.int ep 0],slots:=#[] }
def Way (ww:World) (h:Heap) (d:Addr) (es:Array (Int×Value)) (ep:Nat) (tb:SetTable) (vs:List Value) (T:Addr) (f0:Value) (i:Nat):Prop :=
 (dU ww=true/\f0=.int 0 0/\vs=(pickOrder (ww.params.setOrder d ep) es).toList.map (·.2)) \/
 (dU ww=false/\(!tb.plain&&decide (es.size > 1))=true/\∃ ps:List Nat,f0=.ref T/\h.get? T=some { cls:=.type "tuple", data:=.seq (ps.map fun (k:Nat)=>rawInt k).toArray }/\(∀ p∈ps,p < es.size)/\vs=ps.map fun p=>(es.getD p (0,.none)).2) \/
 (dU ww=false/\es.size<=1/\tb.led=true/\(∃ k:Nat,f0=.int k 0/\SetTable.below tb.place k=i)/\vs=es.toList.map (·.2))
section
variable {pr:Program} {ww:World} {AA:Around} {EE:Value->Shared->Prop} {st:Shared}
theorem sbt {Q:Bool->Shared->Prop} (h:Q (dU ww) st):wpAny (model pr ww) AA setsByText Q EE st:=by
 unfold setsByText;exact Ge (wpAny_askSetting (Gi h))
theorem snA {d:Addr} {ob:Obj} {es:Array (Int×Value)} {ep sl g:Nat} {tb:SetTable} {Q:Option (Value×Nat)->Shared->Prop} (hd:st.heap.get? d=some ob) (hdd:ob.data=.set es ep tb) (hf:tb.fits es.size=true) (hb:dU ww=true)
  (h:Q (((pickOrder (ww.params.setOrder d ep) es)[g]?).map fun e=>(e.2,sl)) st):wpAny (model pr ww) AA (setNext d sl g ep) Q EE st:=by
 unfold setNext;refine Ge (HH hd hdd hf ?_);dsimp only;refine Ge (sbt ?_);rw [hb,Gs rfl,Gy (by simp)];unfold setWalk;refine Ge (Ge (HH hd hdd hf ?_));dsimp only;refine Ge (sbt ?_);rw [hb,Gs rfl];refine Ge (wpAny_askSetting (Gi ?_));exact Gi h
theorem snC {d:Addr} {ob:Obj} {es:Array (Int×Value)} {ep sl g:Nat} {tb:SetTable} {Q:Option (Value×Nat)->Shared->Prop} (hd:st.heap.get? d=some ob) (hdd:ob.data=.set es ep tb) (hf:tb.fits es.size=true) (hb:dU ww=false) (h1:es.size<=1) (hl:tb.led=true)
  (h:Q (match es[SetTable.below tb.place sl]?,tb.place[SetTable.below tb.place sl]? with | some (_,x),some j=>some (x,j+1) | _,_=>none) st):wpAny (model pr ww) AA (setNext d sl g ep) Q EE st:=by
 unfold setNext;refine Ge (HH hd hdd hf ?_);dsimp only;refine Ge (sbt ?_);rw [hb,Gy (by simp)];show wpAny _ _ (if (!tb.plain&&decide (es.size > 1))=true then _ else _) _ _ _;rw [Gy (by have:decide (es.size > 1)=false:=Ie (by omega);rw [this,Bool.and_false];simp)];refine Ge ?_;show wpAny _ _ (if (!tb.led&&!es.isEmpty)=true then _ else _) _ _ _;rw [hl,Gy (by simp)];refine Gi ?_;exact Gi h
theorem snB {d:Addr} {ob:Obj} {es:Array (Int×Value)} {ep p:Nat} {tb:SetTable} {Q:Value->Shared->Prop} {e:Int×Value} (hd:st.heap.get? d=some ob) (hdd:ob.data=.set es ep tb) (hf:tb.fits es.size=true) (he:es[p]?=some e)
  (h:Q e.2 st):wpAny (model pr ww) AA (setNextDrawn d p ep) Q EE st:=by
 unfold setNextDrawn;refine Ge (HH hd hdd hf ?_);dsimp only;rw [Gy (by simp),he];exact Gi h
theorem yz {IT d T:Addr} {f0:Value} {i ep:Nat} {es:Array (Int×Value)} {tb:SetTable} {ob:Obj} {vs:List Value} {Q:Option Value->Shared->Prop}
  (hit:st.heap.get? IT=some (zg f0 i (.ref d) es.size ep)) (hd:st.heap.get? d=some ob) (hdd:ob.data=.set es ep tb) (hf:tb.fits es.size=true) (hw:Way ww st.heap d es ep tb vs T f0 i) {v:Value} (hv:vs[i]?=some v)
  (h:∀ f1 h',h'.get? IT=some (zg f1 (i+1) (.ref d) es.size ep)->Heap.SameBut IT st.heap h'->Way ww h' d es ep tb vs T f1 (i+1)->Q (some v) { st with heap:=h' }) :
  wpAny (model pr ww) AA (pyNext (.ref IT)) Q EE st:=by
 have hT:st.TypeIs (.ref IT) "set_iterator" := ⟨_,hit,rfl⟩;unfold pyNext;refine Ge (wpAny_attempt (wpAny_callSpecial?_slot (name:=Str.ofString "__next__") hT SF.dB (H9 SF.dB hT SF.og ?_ (SF.o4 _))));unfold Builtin.«set_iterator.__next__»
 refine Ge (m:=slotArgs "__next__" 0 ⟨[.ref IT],[]⟩) (Gi ?_);dsimp only;refine Ge (wpAny_fieldsOf hit rfl ?_);dsimp only;refine Ge (wpAny_setEntries_of hd hdd hf ?_);rw [Gy (by simp)];simp only [Iu];rcases hw with ⟨hb,rfl,rfl⟩ | ⟨hb,hdr,ps,rfl,hTo,hps,rfl⟩ | ⟨hb,h1,hl,⟨k,rfl,hk⟩,rfl⟩
 ·dsimp only;refine Ge (snA hd hdd hf hb ?_);rw [GB,Hz] at hv;obtain ⟨e,he,rfl⟩:=GW.mp hv;rw [he];dsimp only [Option.map_some];refine Ge (HV hit (by simp) fun h1 g1 s1=>?_);refine Ge (HV g1 (by simp) fun h2 g2 s2=>?_);refine Gi ⟨_,rfl,Gi (h (.int 0 0) h2 ?_ (s1.trans s2) (.inl ⟨hb,rfl,rfl⟩))⟩;exact g2
 ·dsimp only;refine Ge (Jh hTo rfl ?_);dsimp only;rw [GB] at hv;obtain ⟨p,hp,hpv⟩:=GW.mp hv;have hpl:p < es.size:=hps p (Gx hp);have e1:((ps.map fun (k:Nat)=>rawInt k).toArray)[i]?=some (.int p 0):=by
   rw [Ip,GB,hp];rfl
  rw [e1];dsimp only;have e2:es[p]?=some (es.getD p (0,.none)):=by
   rw [Ho,He hpl];rfl
  refine Ge (snB (p:=(p:Int).toNat) hd hdd hf (by rw [Iu];exact e2) ?_);refine Ge (HV hit (by simp) fun h1 g1 s1=>?_);have hne:T≠IT:=fun z=>by rw [z,hit] at hTo;exact absurd (congrArg Obj.cls (Hr hTo)) (show ¬(Value.type "set_iterator" = Value.type "tuple") from by decide)
  rw [hpv];exact Gi ⟨_,rfl,Gi (h (.ref T) h1 g1 s1 (.inr (.inl ⟨hb,hdr,ps,rfl,by rw [s1.2 T hne];exact hTo,hps,rfl⟩)))⟩
 ·dsimp only;refine Ge (snC (sl:=(k:Int).toNat) hd hdd hf hb h1 hl ?_);rw [GB,Hz] at hv;obtain ⟨e,he,rfl⟩:=GW.mp hv;have hi:i < es.size:=by
   rcases IG i es.size with z | z
   ·exact z
   ·rw [Array.getElem?_eq_none z] at he;cases he
  obtain rfl:i=0:=by omega
  have hpl:tb.place.size=es.size:=by
   simp only [SetTable.fits,GY,Hl] at hf;exact hf.1
  obtain ⟨j,hj⟩:∃ j,tb.place=#[j]:=by
   have:tb.place.size=1:=by omega
   exact Array.size_eq_one_iff.mp this
  rw [Iu,hk,he,hj];obtain ⟨hs,x⟩:=e;refine Ge (HV hit (by simp) fun h1 g1 s1=>?_);refine Ge (HV g1 (by simp) fun h2 g2 s2=>?_);exact Gi ⟨_,rfl,Gi (h (.int ((j+1:Nat):Int) 0) h2 g2 (s1.trans s2) (.inr (.inr ⟨hb,by assumption,hl,⟨j+1,rfl,by rw [hj];exact (uv j).2⟩,rfl⟩)))⟩
theorem nQ {Q:Option Value->Shared->Prop} {IT:Addr} (hh:AA.handled=none) (h:∀ h',Heap.ExtBut IT st.heap h'->Q none { st with heap:=h' }) :
  wpAny (model pr ww) AA.in1 (do
     let z<-newExc (Value.type "StopIteration") []
     raiseNew z:Sem Fin)
  (fun fin s'=>∃ v,fin=Fin.done (Flow.ret v)/\wpAny (model pr ww) AA (pure (some v)) Q EE s')
  (fun e s' =>
   wpAny (model pr ww) AA
    (do
     let z<-isInstance e (Value.type "StopIteration")
     if z=true then pure none else throw e)
    Q EE s')
  st:=by
 refine Ge ?_;simp only [newExc,newTuple];refine Ge (HA ?_ (by size_fits));refine Ge (m:=firstArgMember _ _) (wpAny_of_eq (a:=Value.none) (by first | rfl | (simp only [firstArgMember];rfl)) ?_);refine HA ?_ (by size_fits);simp only [raiseNew];refine Ge (wpAny_handled ?_);rw [show AA.in1.handled=none from hh];refine Ge (Gi (wpAny_throw ?_));refine Ge (wpAny_isInstance (T := "StopIteration") (b:=true) ⟨_,GR _ rfl,rfl⟩ isSubtype_stop ?_);rw [Gs rfl];exact Gi (h _ fun b o _ e=>Gq _ (Gq _ e))
theorem Cs {IT d T:Addr} {f0:Value} {i ep:Nat} {es:Array (Int×Value)} {tb:SetTable} {ob:Obj} {vs:List Value} {Q:Option Value->Shared->Prop} (hh:AA.handled=none)
  (hit:st.heap.get? IT=some (zg f0 i (.ref d) es.size ep)) (hd:st.heap.get? d=some ob) (hdd:ob.data=.set es ep tb) (hf:tb.fits es.size=true) (hw:Way ww st.heap d es ep tb vs T f0 i) (hv:vs[i]?=none)
  (h:∀ h',Heap.ExtBut IT st.heap h'->Q none { st with heap:=h' }) :
  wpAny (model pr ww) AA (pyNext (.ref IT)) Q EE st:=by
 have hT:st.TypeIs (.ref IT) "set_iterator" := ⟨_,hit,rfl⟩;unfold pyNext;refine Ge (wpAny_attempt (wpAny_callSpecial?_slot (name:=Str.ofString "__next__") hT SF.dB (H9 SF.dB hT SF.og ?_ (SF.o4 _))));unfold Builtin.«set_iterator.__next__»
 refine Ge (m:=slotArgs "__next__" 0 ⟨[.ref IT],[]⟩) (Gi ?_);dsimp only;refine Ge (wpAny_fieldsOf hit rfl ?_);dsimp only;refine Ge (wpAny_setEntries_of hd hdd hf ?_);rw [Gy (by simp)];simp only [Iu];have fin:∀ h1,Heap.SameBut IT st.heap h1->∀ h',Heap.ExtBut IT h1 h'->Q none { st with heap:=h' }:=fun h1 s1 h' x=>h h' fun b o hb e=>x b o hb (by rw [s1.2 b hb];exact e);rcases hw with ⟨hb,rfl,rfl⟩ | ⟨hb,hdr,ps,rfl,hTo,hps,rfl⟩ | ⟨hb,h1,hl,⟨k,rfl,hk⟩,rfl⟩
 ·dsimp only;refine Ge (snA hd hdd hf hb ?_);rw [GB,Hz] at hv;rw [Jw.mp hv];dsimp only [Option.map_none];refine Ge (HV hit (by simp) fun h1 g1 s1=>?_);exact nQ (IT:=IT) (st:={ st with heap:=h1 }) hh (fin h1 s1)
 ·dsimp only;refine Ge (Jh hTo rfl ?_);dsimp only;rw [GB] at hv;have e1:((ps.map fun (k:Nat)=>rawInt k).toArray)[i]?=none:=by
   rw [Ip,GB,Jw.mp hv];rfl
  rw [e1];dsimp only;refine Ge (HV hit (by simp) fun h1 g1 s1=>?_);refine Ge (HV g1 (by simp) fun h2 g2 s2=>?_);exact nQ (IT:=IT) (st:={ st with heap:=h2 }) hh (fin h2 (s1.trans s2))
 ·dsimp only;refine Ge (snC (sl:=(k:Int).toNat) hd hdd hf hb h1 hl ?_);rw [GB,Hz] at hv;have hv:=Jw.mp hv;rw [Iu,hk,hv];refine Ge (HV hit (by simp) fun h1 g1 s1=>?_);exact nQ (IT:=IT) (st:={ st with heap:=h1 }) hh (fin h1 s1)
end
open PySem PySem.Spec PyProof.Rows
namespace SF
theorem uP:Slot "set_iterator" "__iter__" "set_iterator.__iter__" :=
 .of (owner := "set_iterator") (n := "__iter__") (by rw [typeLookup_type,builtinLookup_eq_fast];kernel_rfl) (by decide +kernel) (by decide +kernel) (by decide +kernel) (by first | exact .inl (by decide +kernel) | exact .inr (by decide +kernel)) (by rw [isSubtype_type];kernel_rfl)
theorem zJ:entryFor table "set_iterator.__iter__" = some Builtin.«dict_keyiterator.__iter__»:=entryFor_alias (id' := "dict_keyiterator.__iter__") (by kernel_rfl) rfl (by decide +kernel) (by kernel_rfl)
theorem zm (v:Value):argsOk "set_iterator.__iter__" ⟨[v],[]⟩:=by kernel_rfl
end SF
section
variable {pr:Program} {ww:World} {AA:Around} {EE:Value->Shared->Prop} {st:Shared}
theorem Way.frame {h h':Heap} {d T:Addr} {es:Array (Int×Value)} {ep i:Nat} {tb:SetTable} {vs:List Value} {f0:Value} (w:Way ww h d es ep tb vs T f0 i) (k:∀ o,h.get? T=some o->h'.get? T=some o):Way ww h' d es ep tb vs T f0 i:=by
 rcases w with w | ⟨hb,hdr,ps,e,hTo,r⟩ | w
 ·exact .inl w
 ·exact .inr (.inl ⟨hb,hdr,ps,e,k _ hTo,r⟩)
 ·exact .inr (.inr w)
theorem uQ (hh:AA.handled=none) (IT d T:Addr) (h1:d≠IT) (h2:T≠IT) {es:Array (Int×Value)} {ep:Nat} {tb:SetTable} {ob:Obj} (hdd:ob.data=.set es ep tb) (hf:tb.fits es.size=true) (vs:List Value) :
  WalksS pr ww AA IT [IT,d,T] [IT] (fun a b=>b=a) vs.length (fun i v=>vs[i]?=some v) (fun i s=>∃ f0,s.heap.get? IT=some (zg f0 i (.ref d) es.size ep)/\s.heap.get? d=some ob/\Way ww s.heap d es ep tb vs T f0 i) where
 sub:=fun b hb=>by simp at hb;simp [hb]
 grefl:=fun _=>rfl
 gtrans:=fun _ _ _ x y=>y.trans x
 frame:=fun i s h' tk st _ k=>by
  obtain ⟨f0,a,b,c⟩:=st;exact ⟨f0,k IT (by simp) _ a,k d (by simp) _ b,c.frame (k T (by simp))⟩
 item:=fun i s Q E hi st hQ=>by
  obtain ⟨f0,a,b,c⟩:=st;refine yz a b hdd hf c (v:=vs[i]) (Gd hi) fun f1 h' g1 s1 w1=>?_;exact hQ _ _ (Gd hi) ⟨f1,g1,by show h'.get? d=_;rw [s1.2 d h1];exact b,w1⟩ ⟨fun b' o hb e=>by show h'.get? b'=_;rw [s1.2 b' (fun z=>hb (by simp [z]))];exact e,rfl,rfl,rfl,Gu _⟩
 done:=fun s Q E st hQ=>by
  obtain ⟨f0,a,b,c⟩:=st;refine Cs hh a b hdd hf c (HS (Gu _)) fun h' x=>?_;exact hQ _ ⟨fun b' o hb e=>x b' o (fun z=>hb (by simp [z])) e,rfl,rfl,rfl,Gu _⟩
 self:=fun i s Q E st hQ=>by
  obtain ⟨f0,a,b,c⟩:=st;have hT:s.TypeIs (.ref IT) "set_iterator" := ⟨_,a,rfl⟩;refine wpAny_pyIter_slot hT SF.uP (H9 SF.uP hT SF.zJ ?_ (SF.zm _));show wpAny _ _ (ret (.ref IT)) _ _ s;exact Gi ⟨_,rfl, "set_iterator", _,hT,SF.dB.lookup,hQ⟩
theorem range_getD (es:Array (Int×Value)):(List.range es.size).map (fun p=>(es.getD p (0,.none)).2)=es.toList.map (·.2):=by
 apply List.ext_getElem
 ·simp
 ·intro i h1 h2;have h3:i < es.size:=by simpa using h1
  simp [h3]
theorem uC {d:Addr} {es:Array (Int×Value)} {ep:Nat} {tb:SetTable} {ob:Obj} {Q:Value->Shared->Prop} (hd:st.heap.get? d=some ob) (hc:ob.ExactSet) (hdd:ob.data=.set es ep tb) (ht:vH ww tb es.size) (hsz:es.size < scanBound)
  (h:∀ vs f0 T IT h' d',vs.Perm (es.toList.map (·.2))->h'.get? IT=some (zg f0 0 (.ref d) es.size ep)->Way ww h' d es ep tb vs T f0 0->st.heap.objs.size<=IT->T≠IT->(T=d\/st.heap.objs.size<=T)->(∀ b o,st.heap.get? b=some o->h'.get? b=some o)->Q (.ref IT) { st with heap:=h',drawn:=d' }) :
  wpAny (model pr ww) AA (pyIter (.ref d)) Q EE st:=by
 have hT:st.TypeIs (.ref d) "set" := ⟨_,hd,hc.1⟩;have hlt:d < st.heap.objs.size:=GA hd;refine wpAny_pyIter_slot hT F.slot_set_iter (H9 F.slot_set_iter hT SF.wL ?_ (F.args_set_iter_1 _));unfold Builtin.«frozenset.__iter__» Builtin.Frozenset.slot0 Builtin.Frozenset.sizeOf
 refine Ge (Ge (m:=slotArgs "__iter__" 0 ⟨[.ref d],[]⟩) (Gi (Gi ?_)));refine Ge (Ge (wpAny_setEntries_of hd hdd ht.fit (Gi ?_)));unfold setDrawn;refine Ge (Ge (HH hd hdd ht.fit ?_));dsimp only;refine Ge (sbt (Gi ?_));show wpAny _ _ (if (!dU ww&&(!tb.plain&&decide (es.size > 1)))=true then _ else _) _ _ _;have hpl:tb.place.size=es.size:=by
  have hf:=ht.fit;simp only [SetTable.fits,GY,Hl] at hf;exact hf.1
 split
 ·rename_i hdr;simp only [GY,Iv] at hdr;obtain ⟨hb,hdr⟩:=hdr;refine Ge (qM es.size (List.range es.size) (by simp) fun ps d' hps=>?_);have hpsl:ps.length=es.size:=by rw [hps.length_eq,Hf]
  refine Ge (wpAny_newTuple ?_ (by rw [Gg,hpsl];exact Jn hsz));have g0:(st.heap.push { cls:=.type "tuple", data:=.seq (ps.map fun (k:Nat)=>rawInt k).toArray }).get? d=some ob:=Gq _ hd;refine Ge (wpAny_setEpoch_of (s:={ st with heap:=st.heap.push { cls:=.type "tuple", data:=.seq (ps.map fun (k:Nat)=>rawInt k).toArray },drawn:=d' }) g0 hdd ht.fit ?_);refine Ge (m:=newFields _ _) (HA ?_ (by size_fits));have e1:(st.heap.push { cls:=.type "tuple", data:=.seq (ps.map fun (k:Nat)=>rawInt k).toArray }).objs.size=st.heap.objs.size+1:=IU ..;have gT:(st.heap.push { cls:=.type "tuple", data:=.seq (ps.map fun (k:Nat)=>rawInt k).toArray }).get? st.heap.objs.size=some { cls:=.type "tuple", data:=.seq (ps.map fun (k:Nat)=>rawInt k).toArray }:=GR _ rfl;refine Gi ⟨_,rfl, "set_iterator", _,⟨_,GR _ rfl,rfl⟩,SF.dB.lookup,?_⟩;refine h (ps.map fun p=>(es.getD p (0,.none)).2) (.ref st.heap.objs.size) st.heap.objs.size _ _ d' ?_ (GR _ rfl) (.inr (.inl ⟨hb,by rw [GY,Iv];exact hdr,ps,rfl,Gq _ gT,fun p hp=>by have:=hps.mem_iff.mp hp;simpa using this,rfl⟩)) ?_ ?_ (.inr (Gu _)) fun b o e=>Gq _ (Gq _ e)
  ·rw [<- range_getD];exact hps.map _
  ·show st.heap.objs.size<=(st.heap.push _).objs.size;rw [e1];exact HW _
  ·show st.heap.objs.size≠(st.heap.push _).objs.size;rw [e1];exact GK (Ia _)
 ·rename_i hdr;refine Ge (Gi ?_);refine Ge (wpAny_setEpoch_of hd hdd ht.fit ?_);refine Ge (m:=newFields _ _) (HA ?_ (by size_fits));refine Gi ⟨_,rfl, "set_iterator", _,⟨_,GR _ rfl,rfl⟩,SF.dB.lookup,?_⟩;have fin:∀ vs:List Value,vs.Perm (es.toList.map (·.2))->(dU ww=true/\vs=(pickOrder (ww.params.setOrder d ep) es).toList.map (·.2)\/dU ww=false/\es.size<=1/\vs=es.toList.map (·.2))->Q (.ref st.heap.objs.size) { st with heap:=st.heap.push { cls:=.type "set_iterator", data:=.fields #[rawInt 0,rawInt 0,.ref d,rawInt es.size,rawInt ep] } }:=by
   intro vs pm cs;refine h vs (.int 0 0) d _ _ st.drawn pm (GR _ rfl) ?_ (Gu _) (GK hlt) (.inl rfl) fun b o e=>Gq _ e;rcases cs with ⟨hb,rfl⟩ | ⟨hb,h1,rfl⟩
   ·exact .inl ⟨hb,rfl,rfl⟩
   ·refine .inr (.inr ⟨hb,h1,by rw [ht.led,hb];rfl,⟨0,rfl,?_⟩,rfl⟩);rcases IG 0 es.size with z | z
    ·obtain ⟨j,hj⟩:∃ j,tb.place=#[j]:=Array.size_eq_one_iff.mp (by omega);rw [hj];exact (uv j).1
    ·have:tb.place=#[]:=Array.size_eq_zero_iff.mp (by omega);rw [this];rfl
  cases hb:dU ww with
  | true=>exact fin _ ((ot _ es).map _) (.inl ⟨hb,rfl⟩)
  | false =>
   refine fin _ (HJ _) (.inr ⟨hb,?_,rfl⟩);rcases IG 1 es.size with z | z
   ·have hp:=ht.pln (by omega);rw [hb,hp,Iy z] at hdr;exact absurd rfl hdr
   ·exact z
theorem zP {d:Addr} {ss:List Str} {Q:List Value->Shared->Prop} (hh:AA.handled=none) (hS:cw pr ww st.heap d ss)
  (h:∀ vs ss' h' d' tk,StrsAre vs ss'->ss'.Perm ss->st.heap.objs.size<=h'.objs.size->(∀ b o,st.heap.get? b=some o->h'.get? b=some o)->Q vs { st with heap:=h',drawn:=d',toks:=tk }) :
  wpAny (model pr ww) AA (collect (.ref d)) Q EE st:=by
 obtain ⟨ob,es,ep,tb,ho,hx,hdd,he,⟨zs,hz1,hz2⟩,hb,ht⟩:=hS;unfold collect;refine Ge (wpAny_runValue (HQ F.entry_proto_collect ?_));rw [HN F.plain_proto_collect _];show wpAny _ AA.in1 (newList []>>=fun l=>again (.builtin "list.__iadd__" ⟨[l,.ref d],[]⟩)) _ _ st;refine Ge (HA ?_);refine Gi ⟨Ja F.plain_list_iadd _,HQ F.entry_list_iadd ?_⟩;rw [HN F.plain_list_iadd _];have hlt:d < st.heap.objs.size:=GA ho;have ne:st.heap.objs.size≠d:=IF hlt;have g1:(st.heap.push { cls:=.type "list", data:=.seq ([]:List Value).toArray }).get? d=some ob:=Gq _ ho;have g2:(st.heap.push { cls:=.type "list", data:=.seq ([]:List Value).toArray }).get? st.heap.objs.size=some { cls:=.type "list", data:=.seq ([]:List Value).toArray }:=GR _ rfl;have e1:(st.heap.push { cls:=.type "list", data:=.seq ([]:List Value).toArray }).objs.size=st.heap.objs.size+1:=IU ..;have sr:Builtin.List.listSameRef (.ref st.heap.objs.size) (.ref d)=false:=by simp [Builtin.List.listSameRef,ne]
 show wpAny _ AA.in1 (Builtin.List.listExtendWith (.ref st.heap.objs.size) (.ref d) (.ref st.heap.objs.size)) _ _ _;unfold Builtin.List.listExtendWith;have hT:∀ (s:Shared),s.heap.get? d=some ob->s.TypeIs (.ref d) "set" := fun s z=>⟨_,z,hx.1⟩;refine Ge (Jv (hT _ g1) ?_);rw [Gy (by rw [sr];decide)];refine Ge (uC (st:={ st with heap:=st.heap.push { cls:=.type "list", data:=.seq ([]:List Value).toArray } }) g1 hx hdd ht hb fun vs f0 T IT h' d' pm gI wy lI nT lT kp=>?_);refine Ge (Hv ?_);unfold Builtin.List.listLengthHint;refine Ge (Io (hT _ (kp _ _ g1)) SF.nX ?_)
 (generalize hid:("set.__len__" : String)=id0;(fail_if_success (clear hid id0));wp_delta;rw [show splitId id0=some ("set", "__len__") from by subst hid;decide +kernel];subst hid)
 refine Ge (wpAny_isInstance (b:=true) (hT _ (kp _ _ g1)) sub_set_self ?_);show wpAny _ _ (typeOf (.ref d)>>=_) _ _ _;refine Ge (Jv (hT _ (kp _ _ g1)) ?_);refine Gi ?_;show wpAny _ AA.in1 (rule "list.extend.makes-room" >>= fun _=>Builtin.List.listTouch (.ref st.heap.objs.size)>>=fun _=>again (.builtin "list.extend.loop" ⟨[.ref st.heap.objs.size,.ref IT,.ref st.heap.objs.size],[]⟩)) _ _ _;refine Ge (Iw ?_);have g3:h'.get? st.heap.objs.size=some { cls:=.type "list", data:=.seq ([]:List Value).toArray }:=kp _ _ g2;refine Ge ?_;show wpAny _ AA.in1 (updateSeq st.heap.objs.size (·.push .none)>>=fun _=>updateSeq st.heap.objs.size (·.pop)) _ _ _;refine Ge (Jx g3 rfl ?_);have g4:=HU (Obj.mapSeq (·.push Value.none)) g3 rfl;refine Jx g4 rfl ?_;have g5:=HU (Obj.mapSeq (·.pop)) g4 rfl;have oth:∀ b o,b≠st.heap.objs.size->h'.get? b=some o->((h'.update st.heap.objs.size (Obj.mapSeq (·.push Value.none))).update st.heap.objs.size (Obj.mapSeq (·.pop))).get? b=some o :=
  fun b o hb e=>(H0 _ _ (Ne.symm hb)).trans ((H0 _ _ (Ne.symm hb)).trans e)
 have lI:st.heap.objs.size+1<=IT:=by rw [<- e1];exact lI
 have nI:IT≠st.heap.objs.size:=IF lI;have nT2:T≠st.heap.objs.size:=by
  rcases lT with z | z
  ·rw [z];exact Ne.symm ne
  ·have z:st.heap.objs.size+1<=T:=by rw [<- e1];exact z
   exact IF z
 have nd:d≠IT:=GK (GD (Hj hlt) lI);have hh2:AA.in1.handled=none:=hh;have hsl:vs.length<=sizeLine:=by
  rw [pm.length_eq,Gg,GN];exact Jn hb
 refine Gi ⟨Ja F.plain_extend_loop _,codeAny_extend_loopS (uQ hh2 IT d T nd nT hdd ht.fit vs) hsl st.heap.objs.size (by simp [ne,Ne.symm nI,Ne.symm nT2]) _ vs.length 0 _ _ _ rfl (Hn _)
  ⟨f0,oth _ _ nI gI,oth _ _ (Ne.symm ne) (kp _ _ g1),wy.frame fun o e=>oth _ _ nT2 e⟩ g5 (ItemsOf.nil _) fun s' acc' c' hm hS' hacc=>?_⟩
 show wpAny _ AA (load st.heap.objs.size>>=_) _ _ s';refine Ge (wpAny_load hS' ?_);have eacc:acc'.toList=vs:=by
  apply Jp;intro j;rw [Hz];rcases IG j acc'.size with z | z
  ·rw [He z];exact (hacc.2 j _ (He z)).symm
  ·rw [Array.getElem?_eq_none z];exact (HS (by rw [<- hacc.1];exact z)).symm
 refine Gi ?_;show Q acc'.toList s';rw [eacc];obtain ⟨ws,w1,w2⟩:=bU pm hz1;obtain ⟨h2,gn,dr,tk,os⟩:=s';have eg:gn=st.gens:=hm.gens;have ed:dr=d':=hm.drawn;have eo:os=st.os:=hm.os;subst eg;subst ed;subst eo;refine h vs ws h2 dr tk w1 (w2.trans hz2) (Jg (GA hS')) fun b o e=>hm.heap b o ?_ (oth b o ?_ (kp _ _ (Gq _ e)))
 ·have hb:b < st.heap.objs.size:=GA e;simp only [Gv,IY,HL,not_or];exact ⟨GK hb,GK (GD (Hj hb) lI)⟩
 ·exact GK (GA e)
end
open PySem PySem.Spec PyProof.Rows
noncomputable def leT (x y:Str):Bool:=!ltCps y.cps.toList x.cps.toList
theorem iN (x y:Str):leT x y=true↔x.cps.toList<=y.cps.toList:=by
 unfold leT;rw [ltCps_eq,Iv,decide_eq_false_iff_not];exact List.not_lt
theorem jO {x y z:Str} (h:leT x y=true) (h':leT y z=true):leT x z=true:=by
 rw [iN] at *;exact List.le_trans h h'
theorem oM (x y:Str):leT x y=true\/leT y x=true:=by
 rw [iN,iN];exact List.le_total _ _
theorem rK {x y:Str} (h:leT x y=true) (h':leT y x=true):x=y:=by
 rw [iN] at *;have:=List.le_antisymm h h';cases x;cases y;simp only [Str.mk.injEq];exact II.mp this
noncomputable def vD (x:Str):List Str->List Str
 | []=>[x]
 | y :: r=>if leT x y=true then x :: y :: r else y :: vD x r
noncomputable def kf:List Str->List Str
 | []=>[]
 | x :: r=>vD x (kf r)
theorem gu (x:Str):∀ l:List Str,(vD x l).Perm (x :: l)
 | []=>HJ _
 | y :: r=>by
  unfold vD;split
  ·exact HJ _
  ·exact ((gu x r).cons y).trans (List.Perm.swap ..)
theorem cD:∀ l:List Str,(kf l).Perm l
 | []=>HJ _
 | x :: r=>(gu x _).trans ((cD r).cons x)
theorem pG (x:Str):∀ l:List Str,l.Pairwise (fun a b=>leT a b=true)->(vD x l).Pairwise fun a b=>leT a b=true
 | [],_=>by simp [vD]
 | y :: r,h=>by
  obtain ⟨h1,h2⟩:=Ht.mp h;unfold vD;split
  ·rename_i c;refine Ht.mpr ⟨fun b hb=>?_,h⟩;rcases Gv.mp hb with rfl | hb
   ·exact c
   ·exact jO c (h1 b hb)
  ·rename_i c;refine Ht.mpr ⟨fun b hb=>?_,pG x r h2⟩;rcases Gv.mp ((gu x r).mem_iff.mp hb) with rfl | hb
   ·exact (oM b y).resolve_left c
   ·exact h1 b hb
theorem nP:∀ l:List Str,(kf l).Pairwise fun a b=>leT a b=true
 | []=>by simp [kf]
 | x :: r=>pG x _ (nP r)
theorem jR:∀ (p:Str) (l:List Str),risingS p l=true->(p :: l).Pairwise fun a b=>leT a b=true
 | p,[],_=>by simp
 | p,x :: r,h=>by
  have h:(!ltCps x.cps.toList p.cps.toList&&risingS x r)=true:=h;rw [GY] at h;have ih:=jR x r h.2;refine Ht.mpr ⟨fun b hb=>?_,ih⟩;rcases Gv.mp hb with rfl | hb
  ·exact h.1
  ·exact jO h.1 ((Ht.mp ih).1 b hb)
theorem pB:∀ {l:List Str},sortedS l=true->l.Pairwise fun a b=>leT a b=true
 | [],_=>by simp
 | x :: r,h=>jR x r h
theorem pO {l l':List Str} (h:sortedS l=true) (p:l.Perm l'):l=kf l' :=
 List.Perm.eq_of_pairwise (fun _ _ _ _ a b=>rK a b) (pB h) (nP l') (p.trans (cD l').symm)
noncomputable def eV (ss:List Str):List Str:=ss.foldl jn []
theorem fq (x:Str):∀ (ss acc:List Str),x∈ss.foldl jn acc↔x∈acc\/x∈ss
 | [],acc=>by simp
 | y :: r,acc=>by
  rw [HR,fq x r];have:x∈jn acc y↔x∈acc\/x=y:=by
   unfold jn;split
   ·rename_i h;constructor
    ·exact .inl
    ·rintro (h' | rfl)
     ·exact h'
     ·exact h
   ·simp
  rw [this,Gv,or_assoc]
theorem rB {x:Str} {ss:List Str}:x∈eV ss↔x∈ss:=by
 unfold eV;rw [fq];simp
theorem fk:∀ (ss acc:List Str),(ss.foldl jn acc).length<=acc.length+ss.length
 | [],acc=>by simp
 | y :: r,acc=>by
  rw [HR];have:=fk r (jn acc y);have h:(jn acc y).length<=acc.length+1:=by
   unfold jn;split
   ·omega
   ·simp
  rw [GH];omega
theorem l4 (ss:List Str):(eV ss).length<=ss.length:=by
 have:=fk ss [];unfold eV;simpa using this
section
variable {pr:Program} {ww:World} {AA:Around} {EE:Value->Shared->Prop} {st:Shared}
theorem yj {d:Addr} {ss:List Str} {Q:Value->Shared->Prop} (hh:AA.handled=none) (hS:cw pr ww st.heap d ss) (h64:ss.length < 64)
  (h:∀ (out:List Value) h' d' tk p e,StrsAre out (kf ss)->(∀ b o,st.heap.get? b=some o->h'.get? b=some o)->st.heap.objs.size<=p->h'.get? p=some (seqObj "list" out.toArray e)->Q (.ref p) { st with heap:=h',drawn:=d',toks:=tk }) :
  wpAny (model pr ww) AA (call (.builtin "sorted") [.ref d]) Q EE st:=by
 refine Calls.call_function_entry kind_sorted plain_sorted entry_sorted (args_sorted1 _) ?_;unfold Builtin.«sorted»
 refine Ge (m:=checkCount "sorted" 1 1 _) (Gi ?_);refine Ge (zP hh hS fun vs ss' h1 d1 tk h2 h3 le h4=>?_);have hl:vs.length < 64:=by rw [bH h2,h3.length_eq];exact h64
 refine Ge (wpAny_newList ?_ (by rw [Hm];omega));have g1:(h1.push (seqObj "list" vs.toArray 0)).get? h1.objs.size=some (seqObj "list" vs.toArray 0):=GR _ rfl;refine Ge (Hv (H9 slot_list_sort ⟨_,g1,rfl⟩ entry_list_sort (list_sort_treeK strKind_oneLt g1 h2.keysOf (fun v1 v2 rest e=>keyKind_strs (by rw [<- e];exact h2)) hl fun st' a1 a2=>⟨_,rfl,?_⟩) (args_list_sort _)));obtain ⟨zs,z1,z2,z3⟩:=sorted_out_str h2 a1 a2;have ez:zs=kf ss:=pO z3 (z2.trans h3);rw [ez] at z1;obtain ⟨e,he⟩:=sortedHeap_at (out:=(arrOf st').map (·.2)) (vs:=vs) (n:=0) g1;refine Gi ⟨_,rfl,h _ _ d1 tk h1.objs.size e z1 (fun b o q=>?_) le ?_⟩
 ·have lt:b < h1.objs.size:=GA (h4 b o q);rw [sortedHeap_old (GK lt) (by rw [size_push'];exact Hj lt)];exact Gq _ (h4 b o q)
 ·rw [Jd];exact he
end
open PySem PySem.Spec PyProof.Rows
theorem pV:∀ {ds:List PyData} {ss:List Str},strsOf ds=some ss->ds=ss.map .str
 | [],ss,h=>by cases h;rfl
 | d :: ds,ss,h=>by
  unfold strsOf at h;split at h
  ·cases h;rename_i e;cases e
  ·rename_i x r e;cases e;split at h
   ·rename_i xs hx;cases h;rw [pV hx];rfl
   ·cases h
  ·cases h
theorem qt {K:Fg} {F:Addr->Prop} {H:Hp}:∀ {ss:List Str},(∀ s∈ss,s.length<=sizeLine/\PyData.strOk s=true)->DmL K F H (ss.map .str) (ss.map V.str)
 | [],_=>rfl
 | s :: ss,h=>⟨_,_,rfl,⟨rfl,h s Gm⟩,qt fun x hx=>h x (Gp _ hx)⟩
theorem uH {K:Fg} {F:Addr->Prop} {H:Hp}:∀ {ss:List Str} {us:List V},DmL K F H (ss.map .str) us->∀ s∈ss,s.length<=sizeLine/\PyData.strOk s=true
 | [],_,_,s,hs=>by cases hs
 | s :: ss,us,h,x,hx=>by
  obtain ⟨v,r,rfl,h1,h2⟩:=h;rcases Gv.mp hx with rfl | hx
  ·exact h1.2
  ·exact uH h2 x hx
noncomputable def FG:PyData->Option PR
 | .list ds=>match strsOf ds with | some ss=>if ss.length < 64 then some (.frs (.list ((kf ss).map .str))) else none | none=>none
 | _=>none
noncomputable def Bf (X:Cx) (p:Addr) (ss:List Str):HO:=.ext fun h=>cw X.prog X.w h p ss
def BR (X:Cx):List V->Hp->VK->Prop:=fun xs H Q=>∃ (a:Addr) (ss:List Str),xs=[.ref a]/\SqL X.K H a (ss.map V.str)/\ss.length < 1000/\∀ p,H p=none->Q (.ref p) (upd H p (Bf X p (eV ss)))
theorem qO {X:Cx} (hc:X.calm=true):az X (.type "set") (BR X):=by
 intro pins s σ H xs us Q I r h;obtain ⟨a,ss,rfl,hq,hl,q⟩:=h;obtain ⟨u,rfl,r1⟩:=vals1 r;cases (show u=Value.ref a from r1);obtain ⟨its,rv,p,hz⟩:=I.list hq;have hS:=bQ rv;have hl2:its.length=ss.length:=by rw [<- rv.length,Gg]
 refine oY (I.ok.hd hc) p.isList (by simpa using hS) (by show its.toArray.size+1 < 4096;rw [Gw];omega) fun h' tk hS' hk=>?_;have hn:H s.heap.objs.size=none:=I.hok.fresh (Gu _);refine ⟨.ref s.heap.objs.size,_,I.laid (t':=tk) (o:=Bf X s.heap.objs.size (eV ss)) (fun b o hb=>hk b o (GA hb) hb) (Gu _) ?_,rfl,q _ hn⟩;obtain ⟨ob,es,ep,tb,ho,_⟩:=hS'.size;exact ⟨hS',⟨_,ho⟩,fun h1 h2 z k=>z.at k⟩
def zX (X:Cx):List V->Hp->VK->Prop:=fun xs H Q=>∃ (d:Addr) (ss:List Str),xs=[.ref d]/\H d=some (Bf X d ss)/\ss.length < 64/\∀ p,H p=none->Q (.ref p) (upd H p (.lst ((kf ss).map V.str)))
theorem Inv.drew {X:Cx} {pins:List (Addr×Obj)} {σ:St} {H:Hp} {s:Shared} {d':Drawn} (I:Inv X pins σ H s):Inv X pins σ H { s with drawn:=d' } :=
 ⟨I.ok,I.os,I.bare,I.base,I.loc,I.cell,I.free,I.fD,I.pin,I.hok,I.len⟩
theorem m8 {X:Cx} (hc:X.calm=true):az X (.builtin "sorted") (zX X):=by
 intro pins s σ H xs us Q I r h;obtain ⟨d,ss,rfl,hq,h64,q⟩:=h;obtain ⟨u,rfl,r1⟩:=vals1 r;cases (show u=Value.ref d from r1);obtain ⟨hS,_⟩:=I.hok _ _ hq;refine yj (I.ok.hd hc) hS h64 fun out h' d' tk p e ho hk hp hg=>?_;have hn:H p=none:=I.hok.fresh hp;refine ⟨.ref p,_,Inv.drew (d':=d') (I.laid (t':=tk) (o:=.lst ((kf ss).map V.str)) hk hp ?_),rfl,q _ hn⟩;exact ⟨by rw [Gg,(cD ss).length_eq,Hm];omega,out,e,n4 ho,hg⟩
def rSS (K:Fg):V->Hp->VK->Prop:=fun x H Q=>∃ (a:Addr) (ss:List Str),x=.ref a/\SqL K H a (ss.map V.str)/\ss.length < 64/\∀ H1 p,ay H H1->H1 p=none->Q (.ref p) (upd H1 p (.lst ((kf (eV ss)).map V.str)))
noncomputable def rV:PyData->Option PR
 | .list ds=>match strsOf ds with | some ss=>if ss.length < 64 then some (.frs (.list ((kf (eV ss)).map .str))) else none | none=>none
 | _=>none
noncomputable def vN:Prm:=Prm.one rSS rV fun K F H x u pr Q hf hx hd q=>by
 unfold rV at hf;split at hf
 ·rename_i ds;split at hf
  ·rename_i ss hss;split at hf
   ·rename_i h64;cases hf;obtain ⟨a,us,rfl,s1,z1,d1⟩:=ke hx;obtain ⟨e,os⟩:=jz hss d1;rw [e] at s1;rw [pV hss] at d1;refine ⟨a,ss,rfl,s1,h64,fun H1 p sm hp=>?_⟩;have hp0:H p=none:=sm.free hp;have dl:DmL K F H ((kf (eV ss)).map .str) ((kf (eV ss)).map V.str):=qt fun s hs=>uH d1 s (rB.mp ((cD _).mem_iff.mp hs));refine q _ _ (sm.trans (ay.nw _ hp)) ?_;refine ⟨p,rfl,hp0,_,ai,?_,(dl.fresh hp0).pr (Pr.of_same (sm.trans (ay.nw _ hp))) fun _ z=>z⟩;rw [Gg,(cD _).length_eq,Hm];have:=l4 ss;omega
   ·cases hf
  ·cases hf
 ·cases hf
theorem eSS {X:Cx} {e:Expr} {te:TE} {p1 p2 pos1 pos2:Pos} (hc:X.calm=true) (hg1:Gl X "sorted") (hm1:X.mg "sorted" = none) (hg2:Gl X "set") (hm2:X.mg "set" = none) (h:PySem.W.isStarred e=false) (ha:JE X e te) :
  JE X (.Call (.Name "sorted" p1) [.Call (.Name "set" p2) [e] [] pos2] [] pos1) (tCB (vN.r X.K) (jA te v7)):=by
 let te':TE:=fun σ H P=>∃ P0:VK,te σ H P0/\∀ x H1,P0 x H1->P x H1
 have ha':JE X e te':=⟨fun pins s σ H P I ⟨P0,h0,h1⟩=>Hg (ha.h pins s σ H P0 I h0) (fun v s' ⟨x,H',I',r,q⟩=>⟨x,H',I',r,h1 _ _ q⟩) fun _ _ z=>z⟩;have inner:=eTy (p:=p2) (pos:=pos2) (qO hc) hg2 hm2 (by decide +kernel) (eA ha' ab h) h rfl (by decide) rfl;have outer:=eB (p:=p1) (pos:=pos1) (m8 hc) hg1 hm1 (by decide +kernel) (eA inner ab rfl) rfl rfl (by decide) rfl;refine ⟨?_⟩;intro pins s σ H Q I hT;refine outer.h pins s σ H Q I ⟨_,hT,fun x H1 z=>?_⟩;have z:rSS X.K x H1 Q:=z;obtain ⟨a,ss,rfl,sq,h64,q⟩:=z;refine ⟨a,ss,rfl,sq,by omega,fun p hp=>?_⟩;refine ⟨p,eV ss,rfl,ai,by have:=l4 ss;omega,fun p2 hp2=>?_⟩;exact q _ p2 (ay.nw _ hp) hp2
open PySem PySem.Spec PyProof.Rows
noncomputable def kgV (l:List (Str×Cst)) (z:Str):V:=((l.find? fun p=>decide (p.1=z)).map (·.2.v)).getD .non
noncomputable def kgD (l:List (Str×Cst)) (z:Str):PyData:=((l.find? fun p=>decide (p.1=z)).map (·.2.d)).getD .none
theorem Dt (l:List (Str×Cst)) (z:Str) (K:Fg) (F:Addr->Prop) (H:Hp):Dm K F H (kgD l z) (kgV l z):=by
 unfold kgD kgV;cases l.find? fun p=>decide (p.1=z) with
 | none=>rfl
 | some p=>exact p.2.ok K F H
def KG (w:World) (K:Fg) (a:Addr) (l:List (Str×Cst)):Prop:=∃ es n,K.lookup a=some ⟨.type "dict", none,.dict es n,#[]⟩/\PySem.W.KeysLit w.params es.toList/\(a==sysModules)=false/\∀ z,RelV (kgV l z) ((findBy Value.isStrOf es z).getD .none)
noncomputable def xD (e:DictEntry):Option Str:=match e.key with | .str x _=>some x | _=>none
theorem Dv {es:Array DictEntry} {l:List (Str×Cst)} (hk:es.toList.map xD=l.map fun p=>some p.1) (h:∀ p∈l,∃ u,findBy Value.isStrOf es p.1=some u/\RelV p.2.v u):∀ z,RelV (kgV l z) ((findBy Value.isStrOf es z).getD .none):=by
 intro z;unfold kgV;cases hf:l.find? (fun p=>decide (p.1=z)) with
 | none =>
  have:findBy Value.isStrOf es z=none:=by
   unfold findBy;rw [Jw,Array.find?_eq_none];intro e he hz;obtain ⟨t,ek⟩:=Value.isStrOf_shape hz;have hm:xD e∈es.toList.map xD:=List.mem_map_of_mem (Array.mem_def.mp he);rw [hk] at hm;obtain ⟨p,hp,e2⟩:=GO.mp hm;have:xD e=some z:=by unfold xD;rw [ek]
   rw [this] at e2;injection e2 with e2;have:=List.find?_eq_none.mp hf p hp;simp [e2] at this
  rw [this];rfl
 | some p =>
  have hp:=List.mem_of_find?_eq_some hf;have hz:p.1=z:=by simpa using List.find?_some hf
  obtain ⟨u,h1,h2⟩:=h p hp;rw [<- hz,h1];exact h2
open PySem PySem.Spec PyProof.Rows
noncomputable def ko {α:Type} (xs:List α) (i:Nat) (y:α):List α:=xs.take i++y :: xs.drop i
def qh:V->List V->Hp->VK->Prop:=fun x vs H Q=>∃ (l:Addr) (xs:List V) (i:Nat) (y:V),x=.ref l/\vs=[.int i,y]/\H l=some (.lst xs)/\xs.length < sizeLine/\i<=xs.length/\Q .non (upd H l (.lst (ko xs i y)))
theorem pA {α:Type} {xs:List α} {i:Nat} {y:α} (h:i<=xs.length):(ko xs i y).length=xs.length+1:=by
 simp [ko];omega
theorem qB {X:Cx}:MtM X "list.insert" qh:=by
 intro pins s σ H x vs v us Q I rx rv h;obtain ⟨l,xs,i,y,rfl,rfl,hH,hz,hi,q⟩:=h;cases rx;cases rv with
 | cons r1 r2 =>
  cases r2 with
  | cons r2 r3 =>
   cases r3;obtain ⟨t,rfl⟩:=r1;rename_i u;obtain ⟨z,its,n,r,hl,e⟩:=I.Di hH;have hlen:=r.length;have hs:sizeLine=16777216:=Hm;have hc:¬(!Builtin.List.listFitsIndex (i:Int))=true:=by
    have:(i:Int) < 2 ^ 63:=by omega
    simp only [Builtin.List.listFitsIndex];simp;omega
   have hk:(if (i:Int) < 0 then ((i:Int)+(its.toArray.size:Int)).toNat else min ((i:Int)).toNat its.toArray.size)=i:=by
    rw [Gy (by omega),Iu,Gw];omega
   have hz2:its.toArray.size<=sizeLine:=by rw [Gw];omega
   generalize (i:Int)=j at hc hk ⊢;refine call_meets F.slot_list_insert ⟨_,e,rfl⟩ F.entry_list_insert (F.args_list_insert_3 _ _ _) (PySem.AutoSeq1.list_insert_list_int_val_1 l its.toArray n j t u hc hz2) ⟨e,?_⟩;refine ⟨.non,_,I.Cu (its':=ko its i u) (ys:=ko xs i y) hH e ?_ ((r.take i).append (.cons r2 (r.drop i))) (by rw [pA hi];omega),rfl,q⟩;dsimp only;rw [hk];simp [ko];exact Hw (by simp)
noncomputable def EZ:Mtr where
 T := "list"
 r:=fun _=>qh
 ty:=isL
 f:=fun d as=>match d,as with
  | .list xs,[(_,.int i),(true,x)]=>if xs.length < sizeLine/\0<=i/\i<=xs.length then some (.list (ko xs i.toNat x),.none) else none
  | _,_=>none
 vV:=fun K F H d a h t=>qD h t
 ok:=fun K F H d a as vs d' x Q hf ha ht hv q=>by
  split at hf
  ·rename_i ds bb i y;split at hf
   ·rename_i hl;cases hf;obtain ⟨xs,ea,z,rx⟩:=ht;have hv2:∃ v,vs=[.int i,v]/\Dm K F H y v:=by
     cases bb with
     | true=>obtain ⟨v1,r1,rfl,h1,v2,r2,rfl,h2,rfl⟩:=hv;exact ⟨v2,by rw [show v1=.int i from h1],h2⟩
     | false=>obtain ⟨v1,r1,rfl,h1,v2,r2,rfl,h2,rfl⟩:=hv;exact ⟨v2,by rw [show v1=.int i from h1],h2⟩
    obtain ⟨v,rfl,hd⟩:=hv2;have hi:i.toNat<=xs.length:=by rw [rx.len];omega
    have e1:((i.toNat:Nat):Int)=i:=Int.toNat_of_nonneg hl.2.1;refine ⟨a,xs,i.toNat,v,rfl,by rw [e1],ea,by rw [rx.len];exact hl.1,hi,q _ _ (fun b o n e=>by rw [ag n];exact e) ⟨_,ai,by rw [pA hi,rx.len];omega,DmL.pr (me ha ea rfl) (fun _ z=>z) ?_⟩ rfl⟩;have tk:∀ {ds:List PyData} {xs:List V} (n:Nat),DmL K F H ds xs->DmL K F H (ds.take n) (xs.take n)/\DmL K F H (ds.drop n) (xs.drop n):=by
     intro ds;induction ds with
     | nil=>intro xs n h;rw [show xs=[] from h];simp [DmL]
     | cons d ds ih =>
      intro xs n h;obtain ⟨v,r,rfl,h1,h2⟩:=h;cases n with
      | zero=>exact ⟨rfl,v,r,rfl,h1,h2⟩
      | succ n=>exact ⟨⟨v,_,rfl,h1,(ih n h2).1⟩,(ih n h2).2⟩
    exact (tk _ rx).1.app ⟨v,_,rfl,hd,(tk _ rx).2⟩
   ·cases hf
  ·cases hf
noncomputable def mx (x:Str) (n:Nat):Str:=⟨(List.replicate n x.cps.toList).flatten.toArray⟩
theorem s8 (x:Str) (n:Nat):(mx x n).length=n*x.length:=by
 show ((List.replicate n x.cps.toList).flatten.toArray).size=n*x.cps.size;simp
theorem jH:∀ (l:List (Array Nat)) (a:Array Nat),(l.foldl (·++·) a).toList=a.toList++(l.map (·.toList)).flatten
 | [],a=>by simp
 | x :: l,a=>by rw [HR,jH l];simp
theorem vC (x:Str) (n:Nat):Txt.mul x n=mx x n:=by
 have ext:∀ {a b:Str},a.cps.toList=b.cps.toList->a=b:=by
  intro a b h;cases a;cases b;congr 1;exact II.mp h
 unfold Txt.mul;by_cases h1:(n:Int) < 1
 ·rw [Gs h1];have:n=0:=by omega
  subst this;exact ext rfl
 ·rw [Gy h1];by_cases h2:((n:Int)==1||x.length==0)=true
  ·rw [Gs h2];simp only [JB,Hl] at h2;refine ext ?_;rcases h2 with h2 | h2
   ·have:n=1:=by omega
    subst this;simp [mx]
   ·have:x.cps.toList=[]:=by
     have:x.cps.toList.length=0:=by simpa [Str.length] using h2
     exact List.length_eq_zero_iff.mp this
    simp [mx,this]
  ·rw [Gy h2];refine ext ?_;show ((List.replicate (n:Int).toNat x.cps).foldl (·++·) #[]).toList=_;rw [jH];simp [mx]
def zo:R2:=fun x y H Q=>∃ (z:Str) (n:Nat),x=.str z/\y=.int n/\n<=1000/\z.length<=1000/\Q (.str (mx z n)) H
theorem wB {X:Cx}:OpR X (binaryOp .Mult) zo:=by
 intro pins s σ H x y v u Q I rx ry h;obtain ⟨z,n,rfl,rfl,h1,h2,q⟩:=h;obtain ⟨t,rfl⟩:=rx;obtain ⟨t',rfl⟩:=ry;refine SB.mul ⟨by simp;omega,fun a b=>?_,fun a b=>?_⟩ fun t'' k=>⟨.str _,H,I.tok k,⟨t'',by rw [vC]⟩,q⟩
 ·have hn:(0:Int) < n:=by omega
  rw [Int.not_lt];refine Int.le_ediv_of_mul_le hn ?_;have:(z.length:Int)*n<=1000*1000:=Int.mul_le_mul (by omega) (by omega) (by omega) (by omega);omega
 ·have:z.length*(n:Int).toNat<=1000*1000:=Ji h2 (by omega);have hs:sizeLine=16777216:=Hm;simp only [Builtin.Str.tooLong];simp;rw [Iu] at this;omega
theorem mU {x:Str} {n:Nat} (h:PyData.strOk x=true):PyData.strOk (mx x n)=true:=by
 unfold PyData.strOk at h ⊢;rw [Jl] at h ⊢;intro c hc;have:c∈(List.replicate n x.cps.toList).flatten:=by simpa [mx] using hc
 obtain ⟨l,hl,hcl⟩:=List.mem_flatten.mp this;rw [(List.mem_replicate.mp hl).2] at hcl;exact h c (by simpa using hcl)
noncomputable def vR:Prm:=Prm.two (fun _=>zo) (fun x y=>match x,y with | .str z,.int n=>if 0<=n/\n<=1000/\z.length<=1000 then some (.dat (.str (mx z n.toNat))) else none | _,_=>none) fun K F H x y u v pr Q hf hx hy hd q=>by
 split at hf
 ·rename_i z n;split at hf
  ·rename_i h;cases hf;obtain ⟨ex,hl,ho⟩:=vStr hx;have ey:=vInt hy;have e1:((n.toNat:Nat):Int)=n:=Int.toNat_of_nonneg h.1;refine ⟨z,n.toNat,ex,by rw [e1];exact ey,by omega,h.2.2,q _ H (ay.rf H) ⟨rfl,?_,mU ho⟩⟩;rw [s8];have:n.toNat*z.length<=1000*1000:=Ji (by omega) h.2.2;have hs:sizeLine=16777216:=Hm;omega
  ·cases hf
 ·cases hf
theorem tU {X:Cx}:OpR X (binaryOp .Mult) (fun x y=>vR.r X.K [x,y]):=wB
open PySem
structure Kn where
 nx:En->Prop
 rt:RV->En->Prop
 bk:En->Prop
 ct:En->Prop
def Kn.at (E:Kn):Out->Prop | .nx e=>E.nx e | .rt r e=>E.rt r e | .bk e=>E.bk e | .ct e=>E.ct e
def WS (gd:List PyData) (s:XS) (env:En) (E:Kn):Prop:=∃ o,dS gd s env=some o/\E.at o
def WE (gd:List PyData) (e:XE) (env:En) (Q:RV->En->Prop):Prop:=∃ r e',dE gd e env=some (r,e')/\Q r e'
def WA (gd:List PyData) (e:XA) (env:En) (Q:List AV->En->Prop):Prop:=∃ r e',dA gd e env=some (r,e')/\Q r e'
def WT (gd:List PyData) (e:XT) (env:En) (Q:Bool->En->Prop):Prop:=∃ r e',dT gd e env=some (r,e')/\Q r e'
def WI (gd:List PyData) (e:XI) (env:En) (Q:List PyData->Option Nat->En->Prop):Prop:=∃ ds lk e',dI gd e env=some (ds,lk,e')/\Q ds lk e'
def WF (f:Fn) (ds:List PyData) (Q:PR->List PyData->Prop):Prop:=∃ pr outs,f.F ds=some (pr,outs)/\Q pr outs
def WPr (p:Prm) (avs:List AV) (e:En) (Q:RV->En->Prop):Prop:=∃ ds pr,aG e avs=some ds/\p.f ds=some pr/\Q pr.rv e
def uk (i:Nat) (r:RV) (e:En) (N:En->Prop):Prop:=∃ d,r.av=.dat d/\free e i=true/\N (e.set i (.dat d))
def o8 (i:Nat) (r:RV) (e:En) (N:En->Prop):Prop:=∃ d,r=.frs d/\free e i=true/\N (e.set i (.own d))
def A7 (b:PyData->En->Option Out) (ds:List PyData) (lk:Option Nat) (e1:En) (E:Kn):Prop:=∃ o,forL b ds (bg e1 lk)=some o/\E.at (o.map (lkd e1 lk) (ao e1 lk))
def jk (f:Fn) (avs:List AV) (e:En) (Q:RV->En->Prop):Prop:=∃ rv e',sf f avs e=some (rv,e')/\Q rv e'
def xr (ms:List PM) (QF:PR->List PyData->Prop) (r:RV) (e:En):Prop:=∃ pr outs,r.pr=some pr/\gF ms e=some outs/\QF pr outs
def oF (ms:List PM) (QF:PR->List PyData->Prop) (e:En):Prop:=∃ outs,gF ms e=some outs/\QF (.dat .none) outs
def Bg (m:uI) (i:Nat) (v:PyData) (rk:RV) (e2:En) (N:En->Prop):Prop:=∃ dk d d',rk.view e2=some dk/\aA e2 i=some d/\m.f d dk v=some d'/\N (fg e2 i d')
def Bq (gd:List PyData) (m:uI) (i:Nat) (a:XE) (r:RV) (e:En) (N:En->Prop):Prop:=∃ v,r.av=.dat v/\(aA e i).isSome=true/\WE gd a e fun rk e2=>Bg m i v rk e2 N
def A9 (m:Mtd) (r:RV) (avs:List AV) (e2:En) (Q:RV->En->Prop):Prop:=∃ d ds pr,r.view e2=some d/\aG e2 avs=some ds/\m.f d ds=some pr/\Q pr.rv e2
def Bl (gd:List PyData) (m:Mtd) (as:XA) (r:RV) (e:En) (Q:RV->En->Prop):Prop:=∃ d0,r.view e=some d0/\m.ty d0=true/\WA gd as e fun avs e2=>A9 m r avs e2 Q
def WMr (m:Mtr) (i:Nat) (avs:List AV) (e2:En) (Q:RV->En->Prop):Prop:=∃ d ds d' x,aA e2 i=some d/\cj e2 avs=some ds/\m.f d ds=some (d',x)/\Q (.dat x) (fg e2 i d')
def WTp (mk:List PyData->RV) (avs:List AV) (e:En) (Q:RV->En->Prop):Prop:=∃ ds,jw avs=some ds/\ds.length<=sizeLine/\Q (mk ds) e
def Bo (is:List Nat) (r:RV) (e:En) (N:En->Prop):Prop:=∃ ds e2,r.av=.dat (.tuple ds)/\d7 e is ds=some e2/\N e2
section
variable {gd:List PyData} {env e1:En} {E:Kn} {Q:RV->En->Prop} {QA:List AV->En->Prop} {QT:Bool->En->Prop} {QI:List PyData->Option Nat->En->Prop} {i:Nat} {d:PyData} {a b c:XE} {as:XA} {s t:XS} {p:Prm} {f:Fn} {x y:XT}
theorem fE {ms:List PM} {n:Nat} {ds:List PyData} {QF:PR->List PyData->Prop} (hl:ds.length=ms.length) (h:WS gd s (ae ms ds n) ⟨oF ms QF,xr ms QF,fun _=>False,fun _=>False⟩):WF (gS gd ms n s) ds QF:=by
 obtain ⟨o,ho,q⟩:=h;unfold WF gS;simp only;rw [Gs hl,ho];cases o with
 | nx e=>obtain ⟨outs,h1,h2⟩:=q;simp only [h1];exact ⟨_,_,rfl,h2⟩
 | rt r e=>obtain ⟨pr,outs,h1,h2,h3⟩:=q;simp only [h1,h2];exact ⟨_,_,rfl,h3⟩
 | bk e=>exact absurd q id
 | ct e=>exact absurd q id
theorem qf (h:WS gd s env { E with nx:=fun e=>WS gd t e E }):WS gd (.seq s t) env E:=by
 obtain ⟨o,ho,q⟩:=h;unfold WS;simp only [dS,ho];cases o with
 | nx e=>exact q
 | rt r e=>exact ⟨_,rfl,q⟩
 | bk e=>exact ⟨_,rfl,q⟩
 | ct e=>exact ⟨_,rfl,q⟩
theorem gj (h:∀ N:En->Prop,N=(fun e=>WS gd t e E)->WS gd s env { E with nx:=N }):WS gd (.seq s t) env E:=qf (h _ rfl)
theorem iX {e:En} {x y:AV} {i:Int} {xs:List PyData} (h1:aG e [x,y]=some [.list xs,.int i]) (h:atI xs i=some d) (q:Q (.dat d) e):WPr ixP [x,y] e Q:=⟨_,.dat d,h1,by show (atI xs i).map PR.dat=_;rw [h];rfl,q⟩
theorem qL {e:En} {x y:AV} {i:Int} {xs:List PyData} (h1:aG e [x,y]=some [.tuple xs,.int i]) (h:atI xs i=some d) (q:Q (.dat d) e):WPr ixP [x,y] e Q:=⟨_,.dat d,h1,by show (atI xs i).map PR.dat=_;rw [h];rfl,q⟩
theorem AZ {e:En} {x y:AV} {i:Int} {z:Str} {c:Nat} (h1:aG e [x,y]=some [.str z,.int i]) (h:atI z.cps.toList i=some c) (q:Q (.dat (.str ⟨#[c]⟩)) e):WPr ixP [x,y] e Q:=⟨_,.dat (.str ⟨#[c]⟩),h1,by show (atI z.cps.toList i).map _=_;rw [h];rfl,q⟩
theorem zU (h:E.nx env):WS gd .skip env E:=⟨_,rfl,h⟩
theorem Cp (h:E.bk env):WS gd .brk env E:=⟨_,rfl,h⟩
theorem D2 (h:E.ct env):WS gd .cnt env E:=⟨_,rfl,h⟩
theorem zE (h:E.rt (.dat .none) env):WS gd .Bv env E:=⟨_,rfl,h⟩
theorem zp (h:WE gd a env fun r e=>uk i r e E.nx):WS gd (.a6 i a) env E:=by
 obtain ⟨r,e',h1,d,h2,h3,h4⟩:=h;unfold WS;simp only [dS,h1,h2];rw [Gs h3];exact ⟨_,rfl,h4⟩
theorem Al (h:WE gd a env fun r e=>o8 i r e E.nx):WS gd (.ny i a) env E:=by
 obtain ⟨r,e',h1,d,rfl,h3,h4⟩:=h;unfold WS;simp only [dS,h1];rw [Gs h3];exact ⟨_,rfl,h4⟩
theorem Af {is:List Nat} (h:WE gd a env fun r e=>Bo is r e E.nx):WS gd (.yP is a) env E:=by
 obtain ⟨r,e',h1,ds,e2,h2,h3,h4⟩:=h;unfold WS;simp only [dS,h1,h2,h3];exact ⟨_,rfl,h4⟩
theorem y3 (h:WE gd a env fun _ e=>E.nx e):WS gd (.drop a) env E:=by
 obtain ⟨r,e',h1,h2⟩:=h;unfold WS;simp only [dS,h1];exact ⟨_,rfl,h2⟩
theorem Ea (h:WE gd a env E.rt):WS gd (.ret a) env E:=by
 obtain ⟨r,e',h1,h2⟩:=h;unfold WS;simp only [dS,h1];exact ⟨_,rfl,h2⟩
theorem Dh (h:WT gd x env fun b e=>if b=true then WS gd s e E else WS gd t e E):WS gd (.ifs x s t) env E:=by
 obtain ⟨b,e',h1,h2⟩:=h;unfold WS;simp only [dS,h1];cases b with
 | true=>exact h2
 | false=>exact h2
theorem FD {it:XI} (h:WI gd it env fun ds lk e=>A7 (fb i (dS gd s)) ds lk e E):WS gd (.fr i it s) env E:=by
 obtain ⟨ds,lk,e',h1,o,h2,h3⟩:=h;unfold WS;simp only [dS,h1,h2];exact ⟨_,rfl,h3⟩
theorem Cn {is:List Nat} {it:XI} (h:WI gd it env fun ds lk e=>A7 (gP is (dS gd s)) ds lk e E):WS gd (.frT is it s) env E:=by
 obtain ⟨ds,lk,e',h1,o,h2,h3⟩:=h;unfold WS;simp only [dS,h1,h2];exact ⟨_,rfl,h3⟩
theorem Em {m:uI} (h:WE gd b env fun r e=>Bq gd m i a r e E.nx):WS gd (.sto m i a b) env E:=by
 obtain ⟨r,e',h1,v,h2,h3,rk,e2,h4,dk,d,d',h5,h6,h7,h8⟩:=h;obtain ⟨d0,hd0⟩:=Option.isSome_iff_exists.mp h3;unfold WS;simp only [dS,h1,h2,hd0,h4,h5,h6,h7];exact ⟨_,rfl,h8⟩
theorem w_var (h:env[i]?=some (.dat d)) (q:Q (.dat d) env):WE gd (.var i) env Q:=⟨_,_,by simp only [dE,h],q⟩
theorem AR (h:env[i]?=some (.own d)) (q:Q (.bor i) env):WE gd (.var i) env Q:=⟨_,_,by simp only [dE,h],q⟩
theorem x9 (h:env[i]?=some (.ino d)) (q:Q (.bor i) env):WE gd (.var i) env Q:=⟨_,_,by simp only [dE,h],q⟩
theorem Av (h:env[i]?=some (.ro d)) (q:Q (.bor i) env):WE gd (.var i) env Q:=⟨_,_,by simp only [dE,h],q⟩
theorem CM (h:env[i]?=some (.own d)) (q:Q (.dat d) (env.set i (.dat d))):WE gd (.mov i) env Q:=⟨_,_,by simp only [dE,h],q⟩
theorem BL (h:env[i]?=some (.own d)) (q:Q (.frs d) (env.set i .un)):WE gd (.tke i) env Q:=⟨_,_,by simp only [dE,h],q⟩
theorem Ee {c:Cst} (q:Q (.dat c.d) env):WE gd (.cst c) env Q:=⟨_,_,rfl,q⟩
theorem BN {g:Nat} (h:gd[g]?=some d) (q:Q (.dat d) env):WE gd (.glb g) env Q:=⟨_,_,by simp only [dE,h],q⟩
theorem DI (h:WA gd as env fun avs e=>WPr p avs e Q):WE gd (.prm p as) env Q:=by
 obtain ⟨avs,e',h1,ds,pr,h2,h3,h4⟩:=h;exact ⟨_,_,by simp only [dE,h1,h2,h3],h4⟩
theorem zH (h:WA gd as env fun avs e=>jk f avs e Q):WE gd (.call f as) env Q:=by
 obtain ⟨avs,e',h1,rv,e2,h2,h3⟩:=h;exact ⟨_,_,by simp only [dE,h1];exact h2,h3⟩
theorem ax {avs:List AV} {ds:List PyData} {is:List Nat} (h1:gX e1 f.ms avs=some ds) (h2:bO f.ms avs=is) (h:WF f ds fun pr outs=>ckA is (nC f.ms avs) outs.length=true/\Q pr.rv (cb e1 is outs)):jk f avs e1 Q:=by
 obtain ⟨pr,outs,h3,h4,h5⟩:=h;subst h2;unfold jk sf;simp only [h1,h3];rw [Gs h4];exact ⟨_,_,rfl,h5⟩
theorem DQ {m:Mtd} {o:XE} (h:WE gd o env fun r e=>Bl gd m as r e Q):WE gd (.met m o as) env Q:=by
 obtain ⟨r,e',h1,d0,h2,h3,avs,e2,h4,d,ds,pr,h5,h6,h7,h8⟩:=h;exact ⟨_,_,by simp only [dE,h1,h2];rw [Gs h3];simp only [h4,h5,h6,h7],h8⟩
theorem BV {m:Mtr} (h0:aA env i=some d) (h1:m.ty d=true) (h:WA gd as env fun avs e2=>WMr m i avs e2 Q):WE gd (.mtr m i as) env Q:=by
 obtain ⟨avs,e2,h4,d,ds,d',x,h5,h6,h7,h8⟩:=h;exact ⟨_,_,by simp only [dE,h0];rw [Gs h1];simp only [h4,h5,h6,h7],h8⟩
theorem AB (h:WA gd as env fun avs e=>WTp (fun ds=>.dat (.tuple ds)) avs e Q):WE gd (.tup as) env Q:=by
 obtain ⟨avs,e2,h4,ds,h5,h6,h7⟩:=h;exact ⟨_,_,by simp only [dE,h4,h5];rw [Gs h6],h7⟩
theorem yN (h:WA gd as env fun avs e=>WTp (fun ds=>.frs (.list ds)) avs e Q):WE gd (.lst as) env Q:=by
 obtain ⟨avs,e2,h4,ds,h5,h6,h7⟩:=h;exact ⟨_,_,by simp only [dE,h4,h5];rw [Gs h6],h7⟩
theorem DX (h:WT gd x env fun k e=>if k=true then WE gd a e Q else WE gd b e Q):WE gd (.ifx x a b) env Q:=by
 obtain ⟨k,e',h1,h2⟩:=h;unfold WE;simp only [dE,h1];cases k with
 | true=>exact h2
 | false=>exact h2
theorem y7 (h:WE gd a env fun r e=>∃ k,r=.dat (.bool k)/\if k=true then WE gd b e Q else Q (.dat (.bool false)) e):WE gd (.wt a b) env Q:=by
 obtain ⟨r,e',h1,k,rfl,h2⟩:=h;unfold WE;cases k with
 | true=>simp only [dE,h1];exact h2
 | false=>simp only [dE,h1];exact ⟨_,_,rfl,h2⟩
theorem CN (h:WE gd a env fun r e=>∃ k,r=.dat (.bool k)/\if k=true then Q (.dat (.bool true)) e else WE gd b e Q):WE gd (.orv a b) env Q:=by
 obtain ⟨r,e',h1,k,rfl,h2⟩:=h;unfold WE;cases k with
 | true=>simp only [dE,h1];exact ⟨_,_,rfl,h2⟩
 | false=>simp only [dE,h1];exact h2
theorem zi (h:WE gd a env fun r e=>∃ k,r=.dat (.bool k)/\Q (.dat (.bool (!k))) e):WE gd (.xH a) env Q:=by
 obtain ⟨r,e',h1,k,rfl,h2⟩:=h;exact ⟨_,_,by simp only [dE,h1],h2⟩
theorem CV {p':Prm} (h:WE gd a env fun r e=>WE gd b e fun r2 e2=>∃ x y k,r.av=.dat x/\r2.av=.dat y/\p.f [x,y]=some (.dat (.bool k))/\if k=true then WE gd c e2 fun r3 e3=>∃ z pr,r3.av=.dat z/\p'.f [y,z]=some pr/\Q pr.rv e3 else Q (.dat (.bool false)) e2):WE gd (.chn p p' a b c) env Q:=by
 obtain ⟨r,e',h1,r2,e2,h2,x,y,k,h3,h4,h5,h6⟩:=h;unfold WE;cases k with
 | true =>
  rw [Gs rfl] at h6;obtain ⟨r3,e3,h7,z,pr,h8,h9,h10⟩:=h6;simp only [dE,h1,h2,h3,h4,h5,h7,h8,h9];exact ⟨_,_,rfl,h10⟩
 | false =>
  rw [Gy (by decide)] at h6;simp only [dE,h1,h2,h3,h4,h5];exact ⟨_,_,rfl,h6⟩
theorem BZ {g:Int->Int->Prm} (h:WE gd a env fun r e=>WE gd b e fun r2 e2=>∃ i,r2=.dat (.int i)/\WE gd c e2 fun r3 e3=>∃ j,r3=.dat (.int j)/\∃ d pr,r.view e3=some d/\(g i j).f [d]=some pr/\Q pr.rv e3):WE gd (.sl2 g a b c) env Q:=by
 obtain ⟨r,e',h1,r2,e2,h2,i,rfl,r3,e3,h3,j,rfl,d,pr,h4,h5,h6⟩:=h;exact ⟨_,_,by simp only [dE,h1,h2,h3,h4,h5],h6⟩
def Be (st:PyData->En->Option (Option PyData×En)) (js:List Nat) (ds:List PyData) (lk:Option Nat) (e1:En) (Q:RV->En->Prop):Prop :=
 ∃ ys ec,qW st ds (cX e1 lk js)=some (ys,ec)/\Q (.frs (.list ys)) (aF e1 js ec)
theorem BD {js:List Nat} {it:XI} (hn:xb js=true) (h:WI gd it env fun ds lk e1=>Be (eU (dT gd x) (dE gd a)) js ds lk e1 Q):WE gd (.cmp js it x a) env Q:=by
 obtain ⟨ds,lk,e1,h1,ys,ec,h2,h3⟩:=h;refine ⟨_,_,?_,h3⟩;simp only [dE,h1];rw [Gs (fP hn),h2]
theorem xP {n:List Str} {js:List Nat} {it:XI} (hn:xb js=true) (h:WI gd it env fun ds lk e1=>Be (dZ n.length (dE gd a)) js ds lk e1 Q):WE gd (.xu n js it a) env Q:=by
 obtain ⟨ds,lk,e1,h1,ys,ec,h2,h3⟩:=h;refine ⟨_,_,?_,h3⟩;simp only [dE,h1];rw [Gs (fP hn),h2]
def oV (st:PyData->En->Option (Option PyData×En)) (d:PyData) (ec:En) (Q:Option PyData->En->Prop):Prop:=∃ y e,st d ec=some (y,e)/\Q y e
theorem j8 {QS:Option PyData->En->Prop} {ec:En} (h:WT gd x (.dat d :: ec) fun k e2=>if k=true then WE gd a e2 fun r e3=>∃ y,r.av=.dat y/\QS (some y) e3.tail else QS none e2.tail):oV (eU (dT gd x) (dE gd a)) d ec QS:=by
 obtain ⟨k,e2,h1,h2⟩:=h;unfold oV eU;rw [h1];cases k with
 | true =>
  rw [Gs rfl] at h2;obtain ⟨r,e3,h3,y,h4,h5⟩:=h2;simp only [h3,h4];exact ⟨_,_,rfl,h5⟩
 | false =>
  rw [Gy (by decide)] at h2;exact ⟨_,_,rfl,h2⟩
theorem vG {QS:Option PyData->En->Prop} {ec:En} {n:Nat} {xs:List PyData} (hl:xs.length=n) (h:WE gd a (xs.map .dat++ec) fun r e3=>∃ y,r.av=.dat y/\QS (some y) (e3.drop n)):oV (dZ n (dE gd a)) (.tuple xs) ec QS:=by
 obtain ⟨r,e3,h3,y,h4,h5⟩:=h;unfold oV dZ;simp only;rw [Gs hl];simp only [h3,h4];exact ⟨_,_,rfl,h5⟩
theorem eJ {st:PyData->En->Option (Option PyData×En)} {js:List Nat} {ds:List PyData} {lk:Option Nat} (Inv:Nat->List PyData->En->Prop) (h0:Inv 0 [] (cX e1 lk js))
  (hs:∀ i d ys ec,ds[i]?=some d->Inv i ys ec->oV st d ec fun y e=>Inv (i+1) (ys++y.toList) e)
  (hq:∀ ys ec,Inv ds.length ys ec->Q (.frs (.list ys)) (aF e1 js ec)):Be st js ds lk e1 Q:=by
 have key:∀ (rest:List PyData) (i:Nat) (ys:List PyData) (ec:En),ds.drop i=rest->i<=ds.length->Inv i ys ec->∃ zs ec',qW st rest ec=some (zs,ec')/\Inv ds.length (ys++zs) ec':=by
  intro rest;induction rest with
  | nil =>
   intro i ys ec hd hi hI;have:ds.length<=i:=ID.mp hd;have:i=ds.length:=by omega
   subst this;exact ⟨[],ec,rfl,by rw [Hx];exact hI⟩
  | cons d rest ih =>
   intro i ys ec hd hi hI;have hlt:i < ds.length:=by
    apply Hq;intro h;rw [ID.mpr (by omega)] at hd;cases hd
   rw [HF hlt] at hd;injection hd with hd1 hd2;obtain ⟨y,e,h1,h2⟩:=hs i d ys ec (by rw [Gd hlt,hd1]) hI;obtain ⟨zs,ec',h3,h4⟩:=ih (i+1) _ e hd2 hlt h2;refine ⟨y.toList++zs,ec',?_,by rw [<- GI];exact h4⟩;unfold qW;simp only [h1,h3]
 obtain ⟨zs,ec,h1,h2⟩:=key ds 0 [] _ rfl (Hn _) h0;exact ⟨zs,ec,h1,hq zs ec h2⟩
def WB (b:PyData->En->Option Out) (d:PyData) (e:En) (E:Kn):Prop:=∃ o,b d e=some o/\E.at o
theorem rg {e:En} (hf:free e i=true) (h:WS gd s (e.set i (.dat d)) E):WB (fb i (dS gd s)) d e E:=by
 obtain ⟨o,h1,h2⟩:=h;exact ⟨o,by unfold fb;rw [Gs hf];exact h1,h2⟩
theorem xT {e e2:En} {is:List Nat} {xs:List PyData} (hf:d7 e is xs=some e2) (h:WS gd s e2 E):WB (gP is (dS gd s)) (.tuple xs) e E:=by
 obtain ⟨o,h1,h2⟩:=h;exact ⟨o,by unfold gP;simp only [hf];exact h1,h2⟩
theorem cf {b:PyData->En->Option Out} {ds:List PyData} {lk:Option Nat} (Inv:Nat->En->Prop) (h0:Inv 0 (bg e1 lk))
  (hs:∀ i d e,ds[i]?=some d->Inv i e->WB b d e ⟨Inv (i+1),fun r e=>E.rt (r.soft (lkd e1 lk)) (ao e1 lk e),fun e=>E.nx (ao e1 lk e),Inv (i+1)⟩)
  (hq:∀ e,Inv ds.length e->E.nx (ao e1 lk e)):A7 b ds lk e1 E:=by
 have key:∀ (rest:List PyData) (i:Nat) (e:En),ds.drop i=rest->i<=ds.length->Inv i e->∃ o,forL b rest e=some o/\E.at (o.map (lkd e1 lk) (ao e1 lk)):=by
  intro rest;induction rest with
  | nil =>
   intro i e hd hi hI;have:ds.length<=i:=ID.mp hd;have:i=ds.length:=by omega
   subst this;exact ⟨_,rfl,hq e hI⟩
  | cons d rest ih =>
   intro i e hd hi hI;have hlt:i < ds.length:=by
    apply Hq;intro h;rw [ID.mpr (by omega)] at hd;cases hd
   rw [HF hlt] at hd;injection hd with hd1 hd2;obtain ⟨o,h1,h2⟩:=hs i d e (by rw [Gd hlt,hd1]) hI;unfold forL;simp only [h1];cases o with
   | nx e'=>exact ih (i+1) e' hd2 hlt h2
   | ct e'=>exact ih (i+1) e' hd2 hlt h2
   | bk e'=>exact ⟨_,rfl,h2⟩
   | rt r e'=>exact ⟨_,rfl,h2⟩
 exact key ds 0 _ rfl (Hn _) h0
theorem AG (q:QA [] env):WA gd .nil env QA:=⟨_,_,rfl,q⟩
theorem yV (h:WE gd a env fun r e=>WA gd as e fun avs e2=>QA (r.av :: avs) e2):WA gd (.cons a as) env QA:=by
 obtain ⟨r,e',h1,avs,e2,h2,h3⟩:=h;exact ⟨_,_,by simp only [dA,h1,h2],h3⟩
theorem CP (h:WE gd a env fun r e=>∃ k,r=.dat (.bool k)/\QT k e):WT gd (.tst a) env QT:=by
 obtain ⟨r,e',h1,k,rfl,h2⟩:=h;exact ⟨_,_,by simp only [dT,h1],h2⟩
theorem DJ (h:WE gd a env fun r e=>∃ d,r.view e=some d/\Ej d=false/\QT (Eh d) e):WT gd (.tru a) env QT:=by
 obtain ⟨r,e',h1,d,h2,h4,h3⟩:=h;exact ⟨_,e',by simp only [dT,h1,h2,h4];rfl,h3⟩
theorem w_and (h:WT gd x env fun k e=>if k=true then WT gd y e QT else QT false e):WT gd (.and x y) env QT:=by
 obtain ⟨k,e',h1,h2⟩:=h;unfold WT;cases k with
 | true=>simp only [dT,h1];exact h2
 | false=>simp only [dT,h1];exact ⟨_,_,rfl,h2⟩
theorem w_or (h:WT gd x env fun k e=>if k=true then QT true e else WT gd y e QT):WT gd (.or x y) env QT:=by
 obtain ⟨k,e',h1,h2⟩:=h;unfold WT;cases k with
 | true=>simp only [dT,h1];exact ⟨_,_,rfl,h2⟩
 | false=>simp only [dT,h1];exact h2
theorem w_not (h:WT gd x env fun k e=>QT (!k) e):WT gd (.not x) env QT:=by
 obtain ⟨k,e',h1,h2⟩:=h;exact ⟨_,_,by simp only [dT,h1],h2⟩
theorem BO (h:QT true env):WT gd .yes env QT:=⟨_,_,rfl,h⟩
def x4 (r:RV) (e:En) (QI:List PyData->Option Nat->En->Prop):Prop:=(∃ ds,r.av=.dat (.list ds)/\QI ds none e)\/∃ i ds,r.av=.bor i/\cont e i=some (.list ds)/\QI ds (some i) e
theorem F5 (h:WE gd a env fun r e=>x4 r e QI):WI gd (.lst a) env QI:=by
 obtain ⟨r,e',h1,⟨ds,h2,h3⟩ | ⟨i,ds,h2,h3,h4⟩⟩:=h
 ·exact ⟨_,_,_,by simp only [dI,h1,h2],h3⟩
 ·exact ⟨_,_,_,by simp only [dI,h1,h2,h3],h4⟩
theorem ja {r:RV} {e:En} {ds:List PyData} (h:r.av=.dat (.list ds)) (q:QI ds none e):x4 r e QI:=.inl ⟨ds,h,q⟩
theorem Fp (h:WE gd a env fun r e=>∃ ds,r.av=.dat (.tuple ds)/\QI ds none e):WI gd (.tup a) env QI:=by
 obtain ⟨r,e',h1,ds,h2,h3⟩:=h;exact ⟨_,_,_,by simp only [dI,h1,h2],h3⟩
def WSq (r:RV) (e:En) (QI:List PyData->Option Nat->En->Prop):Prop:=x4 r e QI\/∃ ds,r.av=.dat (.tuple ds)/\QI ds none e
theorem FN (h:WE gd a env fun r e=>WSq r e QI):WI gd (.sq a) env QI:=by
 obtain ⟨r,e',h1,(⟨ds,h2,h3⟩ | ⟨i,ds,h2,h3,h4⟩) | ⟨ds,h2,h3⟩⟩:=h
 ·exact ⟨_,_,_,by simp only [dI,h1,h2],h3⟩
 ·exact ⟨_,_,_,by simp only [dI,h1,h2,h3],h4⟩
 ·exact ⟨_,_,_,by simp only [dI,h1,h2],h3⟩
theorem FZ (h:WE gd a env fun r e=>∃ z,r.av=.dat (.str z)/\QI (z.cps.toList.map fun c=>.str ⟨#[c]⟩) none e):WI gd (.str a) env QI:=by
 obtain ⟨r,e',h1,ds,h2,h3⟩:=h;exact ⟨_,_,_,by simp only [dI,h1,h2],h3⟩
theorem E9 (h:WA gd as env fun avs e=>∃ j:Int,avs=[.dat (.int j)]/\(-(2 ^ 62)<=j/\j<=2 ^ 24)/\QI ((List.range j.toNat).map fun (k:Nat)=>.int ((0:Int)+(k:Int))) none e):WI gd (.rng1 as) env QI:=by
 obtain ⟨r,e',h1,j,rfl,h2,h3⟩:=h;exact ⟨_,_,_,by simp only [dI,h1];rw [Gs h2],h3⟩
end
open PySem
theorem jK {e:En} {i:Nat} {s:Sl} (h:e[i]?=some s) (q:soft s):free e i=true:=by
 unfold free;rw [h];cases s with
 | ino d=>exact absurd rfl (q.1 d)
 | ro d=>exact absurd rfl (q.2 d)
 | _=>rfl
theorem g6:soft .un:=⟨fun _=>nofun,fun _=>nofun⟩
theorem g8 {d:PyData}:soft (.dat d):=⟨fun _=>nofun,fun _=>nofun⟩
theorem DE {d:PyData}:soft (.own d):=⟨fun _=>nofun,fun _=>nofun⟩
theorem ki {e:En} {i:Nat} {avs:List AV} {xs:List PyData} {d:PyData} {Q:RV->En->Prop} (h1:aA e i=some (.list xs)) (h2:xs.length < sizeLine) (h3:cj e avs=some [(true,d)]) (q:Q (.dat .none) (fg e i (.list (xs++[d])))):WMr zZ i avs e Q :=
 ⟨_,_,.list (xs++[d]),.none,h1,h3,by show (if xs.length < sizeLine then _ else _)=_;rw [Gs h2],q⟩
theorem gK:∀ (ss:List Str),strsOf (ss.map .str)=some ss
 | []=>rfl
 | s :: ss=>by simp only [List.map_cons,strsOf,gK ss]
theorem yQ {r:RV} {avs:List AV} {e:En} {z:Str} {ss:List Str} {Q:RV->En->Prop} (h1:r.view e=some (.str z)) (h2:aG e avs=some [.list (ss.map .str)]) (h3:fw z ss=true) (q:Q (.dat (.str (Txt.join z ss))) e):A9 joinM r avs e Q:=by
 refine ⟨_,_,.dat (.str (Txt.join z ss)),h1,h2,?_,q⟩;show (match strsOf (ss.map .str) with | some ss=>if fw z ss=true then some (PR.dat (.str (Txt.join z ss))) else none | none=>none)=_;rw [gK];simp only;rw [Gs h3]
theorem ka {e:En} {x y:AV} {xs ys:List PyData} {Q:RV->En->Prop} (h1:aG e [x,y]=some [.list xs,.list ys]) (h2:xs.length+ys.length<=sizeLine) (q:Q (.frs (.list (xs++ys))) e):WPr cV [x,y] e Q :=
 ⟨_,.frs (.list (xs++ys)),h1,by show (if xs.length+ys.length<=sizeLine then _ else _)=_;rw [Gs h2],q⟩
theorem iH {e:En} {x y:AV} {xs ys:Str} {Q:RV->En->Prop} (h1:aG e [x,y]=some [.str xs,.str ys]) (h2:xs.length+ys.length<=sizeLine) (q:Q (.dat (.str (xs++ys))) e):WPr cV [x,y] e Q :=
 ⟨_,.dat (.str (xs++ys)),h1,by show (if xs.length+ys.length<=sizeLine then _ else _)=_;rw [Gs h2],q⟩
theorem w_eq {e:En} {x y:AV} {d d':PyData} {Q:RV->En->Prop} (h1:aG e [x,y]=some [d,d']) (h2:fH d=true) (h3:fH d'=true) (q:Q (.dat (.bool (PyData.eqv d d'))) e):WPr eqP [x,y] e Q :=
 ⟨_,.dat (.bool (PyData.eqv d d')),h1,by show (if fH d=true/\fH d'=true then _ else _)=_;rw [Gs ⟨h2,h3⟩];rfl,q⟩
theorem Fo {e:En} {x y:AV} {d d':PyData} {Q:RV->En->Prop} (h1:aG e [x,y]=some [d,d']) (h2:fH d=true) (h3:fH d'=true) (q:Q (.dat (.bool (!PyData.eqv d d'))) e):WPr neP [x,y] e Q :=
 ⟨_,.dat (.bool (!PyData.eqv d d')),h1,by show (if fH d=true/\fH d'=true then _ else _)=_;rw [Gs ⟨h2,h3⟩];rfl,q⟩
theorem jl {n i:Nat} {d:PyData} (h:((List.range n).map fun (k:Nat)=>PyData.int ((0:Int)+(k:Int)))[i]?=some d):d=.int i/\i < n:=by
 rw [GB] at h;cases q:(List.range n)[i]? with
 | none=>rw [q] at h;cases h
 | some j =>
  rw [q] at h;obtain ⟨hi,e⟩:=Gh.mp q;rw [Hf] at hi;have:j=i:=by rw [<- e];simp
  subst this;cases h;exact ⟨by simp,hi⟩
theorem iL {n:Nat}:((List.range n).map fun (k:Nat)=>PyData.int ((0:Int)+(k:Int))).length=n:=by rw [Gg,Hf]
theorem atV {α:Type} {xs:List α} {r:Int} (h0:0<=r) (h1:r < xs.length):∃ v,v∈xs/\atI xs r=some v:=by
 have hj:r.toNat < xs.length:=by omega
 have ej:r=((r.toNat:Nat):Int):=by omega
 refine ⟨xs[r.toNat],IH hj,?_⟩;have:=kL (xs:=xs) (j:=r.toNat) (v:=xs[r.toNat]) (Gd hj);rw [<- ej] at this;exact this
theorem iF:∀ (ss:List Str),strsOf (ss.map .str)=some ss
 | []=>rfl
 | s :: ss=>by simp only [List.map_cons,strsOf,iF ss]
theorem r9 {α:Type} {xs:List α} {k:Int} (h:0<=k):cutD xs none (some k)=xs.take k.toNat:=by
 unfold cutD;simp only [HT.sIx,List.drop_zero,Nat.sub_zero];rw [Gy (by omega)];by_cases z:k.toNat<=xs.length
 ·congr 1;omega
 ·rw [Hw (by omega),Hw (by omega)]
theorem bL (x:Str):x.cps.toList.length=x.length:=by simp [Str.length]
theorem om {k:Nat}:∀ {ss:List Str},(∀ s∈ss,s.length<=k)->(ss.map (·.length)).sum<=k*ss.length
 | [],_=>by simp
 | s :: ss,h=>by
  have h1:=h s Gm;have h2:=om fun x hx=>h x (Gp _ hx);simp only [List.map_cons,List.sum_cons,GH,Nat.mul_succ];omega
mutual
theorem eqv_refl:∀ d:PyData,noD d=true->PyData.eqv d d=true
 | .none,_=>by simp [PyData.eqv]
 | .bool b,_=>by simp [PyData.eqv]
 | .int i,_=>by simp [PyData.eqv]
 | .str x,_=>by simp [PyData.eqv]
 | .list xs,h=>by simpa [PyData.eqv] using eqvAll_refl xs (by simpa [noD] using h)
 | .tuple xs,h=>by simpa [PyData.eqv] using eqvAll_refl xs (by simpa [noD] using h)
 | .dict _,h=>by simp [noD] at h
theorem eqvAll_refl:∀ ds:List PyData,dN ds=true->PyData.eqvAll ds ds=true
 | [],_=>by simp [PyData.eqvAll]
 | d :: ds,h=>by
  have h':noD d=true/\dN ds=true:=by simpa [dN] using h
  simp [PyData.eqvAll,eqv_refl d h'.1,eqvAll_refl ds h'.2]
end
theorem eh:∀ {ds:List PyData},dN ds=true↔∀ d∈ds,noD d=true
 | []=>by simp [dN]
 | d :: ds=>by simp [dN,eh (ds:=ds)]
theorem dC {k:Nat}:∀ {ds:List PyData},(∀ d∈ds,d.depth<=k)->PyData.depthAll ds<=k
 | [],_=>by simp [PyData.depthAll]
 | d :: ds,h=>by
  have h1:=h d Gm;have h2:=dC fun x hx=>h x (Gp _ hx);simp only [PyData.depthAll];omega
theorem iB {k:Nat} {ds:List PyData} (h:∀ d∈ds,d.depth<=k):(PyData.list ds).depth<=k+1:=by
 simp only [PyData.depth];have:=dC h;omega
theorem fU {k:Nat} {ds:List PyData} (h:∀ d∈ds,d.depth<=k):(PyData.tuple ds).depth<=k+1:=by
 simp only [PyData.depth];have:=dC h;omega
theorem w5 {d:PyData} (h1:noD d=true) (h2:d.depth<=64):fH d=true:=by simp [fH,h1,h2]
open PySem PySem.Spec PyProof.Rows
theorem xJ {e:En} {x:AV} {ss:List Str} {Q:RV->En->Prop} (h1:aG e [x]=some [.list (ss.map .str)]) (h2:ss.length < 64) (q:Q (.frs (.list ((kf (eV ss)).map .str))) e):WPr vN [x] e Q:=by
 refine ⟨_,.frs (.list ((kf (eV ss)).map .str)),h1,?_,q⟩;show rV (.list (ss.map .str))=_;unfold rV;simp only [iF];rw [Gs h2]
theorem Ci {e:En} {i:Nat} {avs:List AV} {xs ys:List PyData} {b:Bool} {Q:RV->En->Prop} (h1:aA e i=some (.list xs)) (h2:xs.length+ys.length<=sizeLine) (h3:cj e avs=some [(b,.list ys)]) (q:Q (.dat .none) (fg e i (.list (xs++ys)))):WMr EK i avs e Q :=
 ⟨_,_,.list (xs++ys),.none,h1,h3,by show (if xs.length+ys.length<=sizeLine then _ else _)=_;rw [Gs h2],q⟩
open PySem PySem.Spec PyProof.Rows
def qX:List (Option Sl)->En->Prop
 | [],e=>e=[]
 | some s :: r,e=>∃ e',qX r e'/\e=s :: e'
 | none :: r,e=>∃ x e',soft x/\qX r e'/\e=x :: e'
def sR:List (Option Sl)->(En->Prop)->Prop
 | [],P=>P []
 | some s :: ts,P=>sR ts fun e=>P (s :: e)
 | none :: ts,P=>∀ s,soft s->sR ts fun e=>P (s :: e)
theorem qX.out:∀ {ts:List (Option Sl)} {e:En} {P:En->Prop},qX ts e->sR ts P->P e
 | [],_,_,h,q=>by cases (show _=_ from h);exact q
 | some s :: ts,e,P,h,q=>by obtain ⟨r,hr,rfl⟩:=h;exact hr.out (P:=fun e=>P (s :: e)) q
 | none :: ts,e,P,h,q=>by obtain ⟨s,r,hs,hr,rfl⟩:=h;exact hr.out (P:=fun e=>P (s :: e)) (q s hs)
section
variable {gd:List PyData} {e e':En} {E:Kn} {Q:RV->En->Prop} {QA:List AV->En->Prop} {QT:Bool->En->Prop} {QI:List PyData->Option Nat->En->Prop} {N:En->Prop} {i:Nat} {r:RV}
theorem A5 (h:e=e') (q:uk i r e' N):uk i r e N:=h▸q
theorem vy (h:e=e') (q:o8 i r e' N):o8 i r e N:=h▸q
theorem Bc {is:List Nat} (h:e=e') (q:Bo is r e' N):Bo is r e N:=h▸q
theorem F8 {as:XA} (h:e=e') (q:WA gd as e' QA):WA gd as e QA:=h▸q
theorem Fy {a:XE} (h:e=e') (q:WE gd a e' Q):WE gd a e Q:=h▸q
theorem FT {s:XS} (h:e=e') (q:WS gd s e' E):WS gd s e E:=h▸q
theorem FL {t:XT} (h:e=e') (q:WT gd t e' QT):WT gd t e QT:=h▸q
theorem Fv {t:XI} (h:e=e') (q:WI gd t e' QI):WI gd t e QI:=h▸q
theorem CC {p:Prm} {avs:List AV} (h:e=e') (q:WPr p avs e' Q):WPr p avs e Q:=h▸q
theorem wU {f:Fn} {avs:List AV} (h:e=e') (q:jk f avs e' Q):jk f avs e Q:=h▸q
theorem DY {mk:List PyData->RV} {avs:List AV} (h:e=e') (q:WTp mk avs e' Q):WTp mk avs e Q:=h▸q
theorem DN {m:Mtr} {avs:List AV} (h:e=e') (q:WMr m i avs e' Q):WMr m i avs e Q:=h▸q
theorem BG {m:Mtd} {avs:List AV} (h:e=e') (q:A9 m r avs e' Q):A9 m r avs e Q:=h▸q
theorem yu {m:Mtd} {as:XA} (h:e=e') (q:Bl gd m as r e' Q):Bl gd m as r e Q:=h▸q
theorem A6 {ms:List PM} {QF:PR->List PyData->Prop} (h:e=e') (q:xr ms QF r e'):xr ms QF r e:=h▸q
theorem wJ {ms:List PM} {QF:PR->List PyData->Prop} (h:e=e') (q:oF ms QF e'):oF ms QF e:=h▸q
theorem z9 (h:e=e') (q:x4 r e' QI):x4 r e QI:=h▸q
theorem zh {m:uI} {a:XE} (h:e=e') (q:Bq gd m i a r e' N):Bq gd m i a r e N:=h▸q
theorem zN {m:uI} {v:PyData} (h:e=e') (q:Bg m i v r e' N):Bg m i v r e N:=h▸q
end
theorem isEq {b:Bool} {avs:List AV} {e:En} {Q:RV->En->Prop} (h:WPr (Bn b) avs e Q):WPr (Bn b) avs e Q:=h
theorem mX {env e2:En} {i:Nat} {is:List Nat} {d:PyData} {ds:List PyData} (h:free env i=true) (q:d7 (env.set i (.dat d)) is ds=some e2):d7 env (i :: is) (d :: ds)=some e2:=by
 simp only [d7];rw [Gs h];exact q
theorem at0 {x:PyData} {xs:List PyData}:atI (x :: xs) 0=some x:=by
 unfold atI ixN;rw [Gs (Int.le_refl _),Gs (by rw [GH];omega)];rfl
theorem xm {x y:Str}:PyData.eqv (.str x) (.str y)=decide (x=y):=by
 simp only [PyData.eqv];rfl
theorem xF {e:En} {x y:AV} {d:PyData} {Q:RV->En->Prop} (h1:aG e [x,y]=some [d,d]) (h2:fH d=true) (q:Q (.dat (.bool true)) e):WPr eqP [x,y] e Q :=
 w_eq h1 h2 h2 (by rw [eqv_refl d (by have:=h2;simp only [fH,GY] at this;exact this.1)];exact q)
theorem v8 {e:En} {x y:AV} {d:PyData} {Q:RV->En->Prop} (h1:aG e [x,y]=some [d,d]) (h2:fH d=true) (q:Q (.dat (.bool false)) e):WPr neP [x,y] e Q :=
 Fo h1 h2 h2 (by rw [eqv_refl d (by have:=h2;simp only [fH,GY] at this;exact this.1)];exact q)
def EY (p:Prm) (r r2:RV) (k:PyData->Bool->Prop):Prop:=∃ x y b,r.av=.dat x/\r2.av=.dat y/\p.f [x,y]=some (.dat (.bool b))/\k y b
def EJ (p:Prm) (y:PyData) (r:RV) (e:En) (Q:RV->En->Prop):Prop:=∃ z pr,r.av=.dat z/\p.f [y,z]=some pr/\Q pr.rv e
theorem AF {gd:List PyData} {env:En} {p p':Prm} {a b c:XE} {Q:RV->En->Prop} (h:WE gd a env fun r e=>WE gd b e fun r2 e2=>EY p r r2 fun y k=>if k=true then WE gd c e2 fun r3 e3=>EJ p' y r3 e3 Q else Q (.dat (.bool false)) e2):WE gd (.chn p p' a b c) env Q:=by
 refine CV ?_;obtain ⟨r,e,h1,r2,e2,h2,x,y,k,h3,h4,h5,h6⟩:=h;exact ⟨r,e,h1,r2,e2,h2,x,y,k,h3,h4,h5,h6⟩
theorem take_snoc {α:Type} {xs:List α} {i:Nat} {x:α} (h:xs[i]?=some x):xs.take i++[x]=xs.take (i+1):=by
 rw [List.take_add_one,h];rfl
theorem i6 {α:Type} {P:α->Prop} {xs:List α} {y:α} (h:∀ x∈xs,P x) (hy:P y):∀ x∈xs++[y],P x:=fun x hm=>by
 rcases GS.mp hm with hm | hm
 ·exact h x hm
 ·rw [Gn.mp hm];exact hy
open PySem PySem.Spec PyProof.Rows
section
variable {gd:List PyData} {a:XE} {env:En} {QI:List PyData->Option Nat->En->Prop}
def FA (r:RV) (e:En) (QI:List PyData->Option Nat->En->Prop):Prop:=(∃ kvs,r.av=.dat (.dict kvs)/\QI (kvs.map (·.1)) none e)\/∃ i kvs,r.av=.bor i/\cont e i=some (.dict kvs)/\QI (kvs.map (·.1)) (some i) e
theorem FP (h:WE gd a env fun r e=>FA r e QI):WI gd (.dct a) env QI:=by
 obtain ⟨r,e',h1,⟨kvs,h2,h3⟩ | ⟨i,kvs,h2,h4,h3⟩⟩:=h
 ·exact ⟨_,_,_,by simp only [dI,h1,h2],h3⟩
 ·exact ⟨_,_,_,by simp only [dI,h1,h2,h4],h3⟩
end
theorem Cq {e:En} {i:Nat} {avs:List AV} {xs:List PyData} {d:PyData} {j:Int} {b:Bool} {Q:RV->En->Prop} (h1:aA e i=some (.list xs)) (h2:xs.length < sizeLine) (h3:cj e avs=some [(b,.int j),(true,d)]) (h4:0<=j) (h5:j<=xs.length) (q:Q (.dat .none) (fg e i (.list (ko xs j.toNat d)))):WMr EZ i avs e Q :=
 ⟨_,_,_,_,h1,h3,by show (if xs.length < sizeLine/\0<=j/\j<=xs.length then some (PyData.list (ko xs j.toNat d),PyData.none) else none)=_;rw [Gs ⟨h2,h4,h5⟩],q⟩
theorem uN {e:En} {x y:AV} {z:Str} {n:Int} {Q:RV->En->Prop} (h1:aG e [x,y]=some [.str z,.int n]) (h2:0<=n) (h3:n<=1000) (h4:z.length<=1000) (q:Q (.dat (.str (mx z n.toNat))) e):WPr vR [x,y] e Q :=
 ⟨_,.dat _,h1,by show (if 0<=n/\n<=1000/\z.length<=1000 then some (PR.dat (.str (mx z n.toNat))) else none)=_;rw [Gs ⟨h2,h3,h4⟩],q⟩
open PySem PySem.Spec PyProof.Rows PySem.W
structure Ord (lt:Nat->Nat->Bool) (n:Nat):Prop where
 irr:∀ i,lt i i=false
 tr:∀ i j k,lt i j=true->lt j k=true->lt i k=true
 tot:∀ i j,i < n->j < n->i≠j->lt i j=false->lt j i=true
noncomputable def at_ (p:Array Nat) (i:Nat):Nat:=p.getD i 0
def Up (lt:Nat->Nat->Bool) (p:Array Nat) (m:Nat):Prop:=∀ i,i+1 < m->lt (at_ p i) (at_ p (i+1))=true
section
variable {lt:Nat->Nat->Bool} {n:Nat} {p:Array Nat}
def Pm (n:Nat) (p:Array Nat):Prop:=p.Perm (List.range n).toArray
theorem Pm.size (h:Pm n p):p.size=n:=by
 have:=Array.Perm.size_eq h;simpa using this
theorem Up.all (O:Ord lt n) {m:Nat} (h:Up lt p m) {i j:Nat} (hij:i < j) (hj:j < m):lt (at_ p i) (at_ p j)=true:=by
 induction j with
 | zero=>omega
 | succ j ih =>
  by_cases e:i=j
  ·subst e;exact h i hj
  ·exact O.tr _ _ _ (ih (by omega) (by omega)) (h j hj)
end
open PySem PySem.Spec PyProof.Rows PySem.W
noncomputable def de:Bool->Keyed->Array Keyed->Nat->Nat->Nat->StateT SortSt Sem (Option Nat):=sortPriv% PySem.Builtin.gallop
noncomputable def byd (left:Bool) (key:Keyed) (arr:Array Keyed) (base i:Nat):StateT SortSt Sem (Option Bool) :=
 elem' arr (base+i)>>=fun x=>if left=true then lt' x key else lt' key x>>=fun r=>pure (r.map fun b=>!b)
noncomputable def hfB (left:Bool) (key:Keyed) (arr:Array Keyed) (base:Nat) (c:Option (Option Nat)×Nat×Nat):StateT SortSt Sem (ForInStep (Option (Option Nat)×Nat×Nat)) :=
 if c.2.1>=c.2.2 then pure (.done (none,c.2.1,c.2.2)) else
  byd left key arr base (c.2.1+(c.2.2 - c.2.1) / 2)>>=fun r=>match r with
   | some b=>if b=true then pure (.yield (none,c.2.1+(c.2.2 - c.2.1) / 2+1,c.2.2)) else pure (.yield (none,c.2.1,c.2.1+(c.2.2 - c.2.1) / 2))
   | _=>pure (.done (some none,c.2.1,c.2.2))
theorem bindC {α β:Type} {m m':StateT SortSt Sem α} {f f':α->StateT SortSt Sem β} (h:m=m') (k:∀ a,f a=f' a):(m>>=f)=(m'>>=f'):=by
 subst h;exact Iz k
section
variable {M:Model} {A:Around} {E:Value->Shared->Prop} {s:Shared}
theorem uZ {α:Type} {m m':StateT SortSt Sem α} {Q:α->SortSt->Prop} {st:SortSt} (e:m=m') (h:wpS M A E s m' Q st):wpS M A E s m Q st:=e▸h
theorem ug {left:Bool} {key:Keyed} {arr:Array Keyed} {base n lo hi:Nat} {P:Nat->Bool} {st:SortSt} {Q:Option Nat->SortSt->Prop}
  (hb:∀ i (C:Option Bool->SortSt->Prop),i < n->C (some (P i)) st->wpS M A E s (byd left key arr base i) C st) (hm:∀ i j,i<=j->j < n->P j=true->P i=true)
  (h0:hi<=n) (hl:lo<=hi) (h1:∀ i,i < lo->P i=true) (h2:∀ i,hi<=i->i < n->P i=false)
  (h:∀ k,k<=n->(∀ i,i < k->P i=true)->(∀ i,k<=i->i < n->P i=false)->Q (some k) st) :
  wpS M A E s (forIn [0:n] ((none,lo,hi):Option (Option Nat)×Nat×Nat) (fun _ c=>hfB left key arr base c)>>=fun c=>match c.1 with
   | some r=>pure r
   | none=>pure (some c.2.2)) Q st:=by
 refine GL (HB (I:=fun i c st'=>st'=st/\c.1=none/\c.2.1<=c.2.2/\c.2.2<=n/\c.2.2 - c.2.1<=n - i/\(∀ i,i < c.2.1->P i=true)/\(∀ i,c.2.2<=i->i < n->P i=false)) ?_ ?_ ⟨rfl,rfl,hl,h0,by dsimp only;omega,h1,h2⟩)
 ·rintro i ⟨r,lo,hi⟩ _ _ hi' ⟨rfl,e,a1,a2,a3,a4,a5⟩;dsimp only at e a1 a2 a3 a4 a5 ⊢;subst e;unfold hfB;dsimp only;by_cases c:lo>=hi
  ·rw [Gs c];exact GF (GF (h hi a2 (fun i z=>a4 i (by omega)) a5))
  ·rw [Gy c];refine GL (hb _ _ (by omega) ?_);dsimp only;cases e:P (lo+(hi - lo) / 2) with
   | true =>
    rw [Gs rfl];exact GF ⟨rfl,rfl,by dsimp only;omega,a2,by dsimp only;omega,fun i z=>hm _ _ (by dsimp only at z;omega) (by omega) e,a5⟩
   | false =>
    rw [Gy GV];refine GF ⟨rfl,rfl,by dsimp only;omega,by dsimp only;omega,by dsimp only;omega,a4,fun i z y=>?_⟩;cases e':P i with
    | false=>rfl
    | true=>rw [hm _ _ z y e'] at e;exact absurd e (by decide)
 ·rintro ⟨r,lo,hi⟩ _ ⟨rfl,e,a1,a2,a3,a4,a5⟩;dsimp only at e a1 a2 a3 a4 a5 ⊢;subst e;exact GF (h hi a2 (fun i z=>a4 i (by omega)) a5)
theorem tK {left:Bool} {key:Keyed} {arr:Array Keyed} {base n hint:Nat} {P:Nat->Bool} {st:SortSt} {Q:Option Nat->SortSt->Prop}
  (hb:∀ i (C:Option Bool->SortSt->Prop),i < n->C (some (P i)) st->wpS M A E s (byd left key arr base i) C st) (hm:∀ i j,i<=j->j < n->P j=true->P i=true)
  (hn:hint < n)
  (h:∀ k,k<=n->(∀ i,i < k->P i=true)->(∀ i,k<=i->i < n->P i=false)->Q (some k) st) :
  wpS M A E s (de left key arr base n hint) Q st:=by
 have hmf:∀ i j,i<=j->j < n->P i=false->P j=false:=fun i j hij hj e=>by
  cases e':P j with
  | false=>rfl
  | true=>rw [hm _ _ hij hj e'] at e;exact absurd e (by decide)
 unfold de;refine GL (hb _ _ hn ?_);dsimp only;cases e:P hint with
 | true =>
  rw [Gs rfl];refine GL (HX (HB (I:=fun i (c:Option (Option Nat)×Nat×Nat) st'=>st'=st/\c.1=none/\c.2.1 < c.2.2/\i+1<=c.2.2/\hint+c.2.1 < n/\P (hint+c.2.1)=true) (Q:=fun (c:Option (Option Nat)×Nat×Nat) st'=>st'=st/\c.1=none/\c.2.1 < c.2.2/\hint+c.2.1 < n/\P (hint+c.2.1)=true/\∀ i,hint+min c.2.2 (n - hint)<=i->i < n->P i=false) ?_ ?_ ⟨rfl,rfl,Ia _,Gu _,hn,e⟩) ?_)
  ·rintro i ⟨r,lo,hi⟩ _ _ hi' ⟨rfl,e,a1,a2,a3,a4⟩;dsimp only at e a1 a2 a3 a4 ⊢;subst e;by_cases c:hi>=n - hint
   ·rw [Gs c];exact GF ⟨rfl,rfl,a1,a3,a4,fun i z y=>by dsimp only at z;omega⟩
   ·rw [Gy c];refine GL (hb _ _ (by omega) ?_);dsimp only;cases e:P (hint+hi) with
    | true =>
     rw [Gy (by decide)];exact GF ⟨rfl,rfl,by dsimp only;omega,by dsimp only;omega,by dsimp only;omega,e⟩
    | false =>
     rw [Gs (by decide)];exact GF ⟨rfl,rfl,a1,a3,a4,fun i z y=>hmf _ _ (by dsimp only at z;omega) y e⟩
  ·rintro ⟨r,lo,hi⟩ _ ⟨rfl,e,a1,a2,a3,a4⟩;exact ⟨rfl,e,a1,a3,a4,fun i z y=>by dsimp only at z a2;omega⟩
  ·rintro ⟨r,lo,hi⟩ _ ⟨rfl,e,a1,a2,a3,a4⟩;dsimp only at e a1 a2 a3 a4 ⊢;subst e;refine uZ ?_ (ug (lo:=hint+lo+1) (hi:=hint+min hi (n - hint)) hb hm (by omega) (by omega) (fun i z=>hm _ _ (by omega) a2 a3) a4 h);exact bindC (by congr 1) fun c=>by cases c.1 <;> rfl
 | false =>
  rw [Gy GV];refine GL (HX (HB (I:=fun i (c:Option (Option Nat)×Nat×Nat) st'=>st'=st/\c.1=none/\c.2.1 < c.2.2/\i+1<=c.2.2/\c.2.1<=hint/\P (hint - c.2.1)=false) (Q:=fun (c:Option (Option Nat)×Nat×Nat) st'=>st'=st/\c.1=none/\c.2.1 < c.2.2/\c.2.1<=hint/\P (hint - c.2.1)=false/\∀ i,i < hint+1 - min c.2.2 (hint+1)->P i=true) ?_ ?_ ⟨rfl,rfl,Ia _,Gu _,Hn _,e⟩) ?_)
  ·rintro i ⟨r,lo,hi⟩ _ _ hi' ⟨rfl,e,a1,a2,a3,a4⟩;dsimp only at e a1 a2 a3 a4 ⊢;subst e;by_cases c:hi>=hint+1
   ·rw [Gs c];exact GF ⟨rfl,rfl,a1,a3,a4,fun i z=>by dsimp only at z;omega⟩
   ·rw [Gy c];refine GL (hb _ _ (by omega) ?_);dsimp only;cases e:P (hint - hi) with
    | true =>
     rw [Gs rfl];exact GF ⟨rfl,rfl,a1,a3,a4,fun i z=>hm _ _ (by dsimp only at z;omega) (by omega) e⟩
    | false =>
     rw [Gy GV];exact GF ⟨rfl,rfl,by dsimp only;omega,by dsimp only;omega,by dsimp only;omega,e⟩
  ·rintro ⟨r,lo,hi⟩ _ ⟨rfl,e,a1,a2,a3,a4⟩;exact ⟨rfl,e,a1,a3,a4,fun i z=>by dsimp only at z a2;omega⟩
  ·rintro ⟨r,lo,hi⟩ _ ⟨rfl,e,a1,a2,a3,a4⟩;dsimp only at e a1 a2 a3 a4 ⊢;subst e;refine uZ ?_ (ug hb hm (by omega) (by omega) a4 (fun i z y=>hmf _ _ z y a3) h);exact bindC (by congr 1) fun c=>by cases c.1 <;> rfl
end
open PySem PySem.Spec PyProof.Rows PySem.W
noncomputable def arK (F:Nat->Keyed) (l:List Nat):Array Keyed:=(l.map F).toArray
section
variable {F:Nat->Keyed} {l m:List Nat}
theorem aT:(arK F l).size=l.length:=by simp [arK]
theorem cF {x:Nat}:(arK F l).push (F x)=arK F (l++[x]):=by simp [arK]
theorem cq:arK F l++arK F m=arK F (l++m):=by simp [arK]
theorem nM:(arK F l).reverse=arK F l.reverse:=by simp [arK]
theorem mL {i j:Nat}:(arK F l).extract i j=arK F ((l.drop i).take (j - i)):=by simp [arK,List.extract_eq_drop_take,List.map_drop,List.map_take]
theorem mB {i:Nat}:(arK F l).extract i l.length=arK F (l.drop i):=by rw [mL,Hw (by simp)]
theorem lr {j:Nat}:(arK F l).extract 0 j=arK F (l.take j):=by rw [mL,List.drop_zero,Nat.sub_zero]
theorem zG {i x:Nat} (h:l[i]?=some x):(arK F l)[i]?=some (F x):=by simp [arK,h]
theorem a9 {i x:Nat} (h:l[i]?=some x):l.drop i=x :: l.drop (i+1):=by
 obtain ⟨hi,e⟩:=Gh.mp h;rw [HF hi,e]
end
structure Mg (lt:Nat->Nat->Bool) (tot o A B:List Nat):Prop where
 sa:(o++A).Pairwise fun x y=>lt x y=true
 sb:(o++B).Pairwise fun x y=>lt x y=true
 pm:(o++(A++B)).Perm tot
section
variable {lt:Nat->Nat->Bool} {tot o A B A1 A2 B1 B2:List Nat} {x y:Nat}
theorem Mg.symm (h:Mg lt tot o A B):Mg lt tot o B A:=⟨h.sb,h.sa,(Iq o List.perm_append_comm).trans h.pm⟩
theorem Mg.left (h:Mg lt tot o (A1++A2) B) (q:∀ x∈A1,∀ y∈B,lt x y=true):Mg lt tot (o++A1) A2 B:=by
 refine ⟨by rw [GI];exact h.sa,?_,by have:=h.pm;simp only [GI] at this ⊢;exact this⟩;have h1:=GJ.mp h.sa;have h2:=GJ.mp h.sb;have h3:=GJ.mp h1.2.1;rw [GI,GJ];refine ⟨h1.1,GJ.mpr ⟨h3.1,h2.2.1,q⟩,fun a ha b hb=>?_⟩;rcases GS.mp hb with z | z
 ·exact h1.2.2 a ha b (GQ _ z)
 ·exact h2.2.2 a ha b z
theorem Mg.right (h:Mg lt tot o A (B1++B2)) (q:∀ x∈B1,∀ y∈A,lt x y=true):Mg lt tot (o++B1) A B2:=(h.symm.left q).symm
theorem Mg.len (h:Mg lt tot o A B):o.length+(A.length+B.length)=tot.length:=by simpa using h.pm.length_eq
theorem Mg.rh {N:Nat} (O:Ord lt N) (h:Mg lt tot o (x :: A) (y :: B)) (q:lt y x=true):∀ z∈[y],∀ w∈x :: A,lt z w=true:=by
 intro z hz w hw;rw [Gn] at hz;subst hz;rcases Gv.mp hw with rfl | hw
 ·exact q
 ·exact O.tr _ _ _ q ((Ht.mp (GJ.mp h.sa).2.1).1 _ hw)
theorem Mg.ne (h:Mg lt tot o A B) (nd:tot.Nodup) (hx:x∈A) (hy:y∈B):x≠y:=by
 have h1:=(Hs.mp (h.pm.nodup_iff.mpr nd)).2.1;exact (Hs.mp h1).2.2 x hx y hy
theorem Mg.inA (h:Mg lt tot o A B) (hx:x∈A):x∈tot:=h.pm.mem_iff.mp (Gr _ (GQ _ hx))
theorem Mg.inB (h:Mg lt tot o A B) (hx:x∈B):x∈tot:=h.symm.inA hx
theorem Mg.les {N:Nat} (O:Ord lt N) (nd:tot.Nodup) (bd:∀ x∈tot,x < N) (h:Mg lt tot o A B) (hx:x∈A) (hy:y∈B) (e:lt y x=false):lt x y=true :=
 O.tot y x (bd _ (h.inB hy)) (bd _ (h.inA hx)) (Ne.symm (h.ne nd hx hy)) e
theorem Mg.low {N:Nat} (O:Ord lt N) (h:Mg lt tot o A (y :: B)) (q:∀ x∈A1,lt x y=true):∀ x∈A1,∀ w∈y :: B,lt x w=true:=by
 intro x hx w hw;rcases Gv.mp hw with rfl | hw
 ·exact q x hx
 ·exact O.tr _ _ _ (q x hx) ((Ht.mp (GJ.mp h.sb).2.1).1 _ hw)
end
section
variable {M:Model} {E:Value->Shared->Prop} {Ar:Around} {s:Shared} {F:Nat->Keyed} {lt:Nat->Nat->Bool} {N:Nat} {κ:SortKind}
theorem aM {α:Type} {l:List Nat} {i x:Nat} {st:SortSt} {f:Keyed->StateT SortSt Sem α} {Q:α->SortSt->Prop} (h:l[i]?=some x) (q:wpS M Ar E s (f (F x)) Q st):wpS M Ar E s (elem' (arK F l) i>>=f) Q st:=by
 rw [elem'_eq,zG h];exact GL (GF q)
def Cmp (M:Model) (Ar:Around) (E:Value->Shared->Prop) (s:Shared) (F:Nat->Keyed) (lt:Nat->Nat->Bool) (N:Nat) (κ:SortKind):Prop :=
 ∀ i j (C:Option Bool->SortSt->Prop) st,PyProof.Rows.kindOf st=κ->i < N->j < N->C (some (lt i j)) st->wpS M Ar E s (lt' (F i) (F j)) C st
theorem l9 {P:Nat->Bool} {S:List Nat} {k:Nat} (hk:k<=S.length) (h1:∀ i,i < k->∀ x,S[i]?=some x->P x=true) (h2:∀ i,k<=i->i < S.length->∀ x,S[i]?=some x->P x=false) :
  ∃ S1 S2,S=S1++S2/\S1.length=k/\(∀ x∈S1,P x=true)/\∀ x∈S2,P x=false:=by
 refine ⟨S.take k,S.drop k,(IW k S).symm,by rw [GX];omega,fun x hx=>?_,fun x hx=>?_⟩
 ·obtain ⟨i,hi,e⟩:=List.mem_iff_getElem.mp hx;rw [GX] at hi;exact h1 i (by omega) x (by rw [List.getElem_take] at e;rw [Gd (by omega),e])
 ·obtain ⟨i,hi,e⟩:=List.mem_iff_getElem.mp hx;rw [HC] at hi;exact h2 (k+i) (by omega) (by omega) x (by rw [List.getElem_drop] at e;rw [Gd (by omega),e])
theorem nq {left:Bool} {y base n hint:Nat} {l S:List Nat} {st:SortSt} {Q:Option Nat->SortSt->Prop} (O:Ord lt N) (hc:Cmp M Ar E s F lt N κ) (hk:PyProof.Rows.kindOf st=κ)
  (hS:(l.drop base).take n=S) (hl:S.length=n) (hp:S.Pairwise fun x y=>lt x y=true) (hb:∀ x∈S,x < N) (hy:y < N) (hn:hint < n)
  (h:∀ S1 S2,S=S1++S2->(∀ x∈S1,(if left then lt x y else !lt y x)=true)->(∀ x∈S2,(if left then lt x y else !lt y x)=false)->Q (some S1.length) st) :
  wpS M Ar E s (de left (F y) (arK F l) base n hint) Q st:=by
 have hx:∀ i,i < n->∃ x,S[i]?=some x/\l[base+i]?=some x/\x < N:=fun i hi=>by
  refine ⟨S[i]'(by omega),Gd _,?_,hb _ (IH _)⟩;have:((l.drop base).take n)[i]?=S[i]?:=by rw [hS]
  rw [List.getElem?_take_of_lt hi,IL] at this;rw [this,Gd]
 refine tK (P:=fun i=>if left then lt (S.getD i 0) y else !lt y (S.getD i 0)) (fun i C hi hC=>?_) (fun i j hij hj e=>?_) hn fun k hk1 a1 a2=>?_
 ·obtain ⟨x,e1,e2,e3⟩:=hx i hi;unfold byd;refine aM e2 ?_;have eg:S.getD i 0=x:=by rw [GP,e1];rfl
  rw [eg] at hC;cases left with
  | true =>
   rw [Gs rfl] at hC ⊢;exact hc _ _ _ _ hk e3 hy hC
  | false =>
   rw [Gy GV] at hC ⊢;exact GL (hc _ _ _ _ hk hy e3 (GF hC))
 ·rcases Nat.lt_or_eq_of_le hij with z | rfl
  ·obtain ⟨x,e1,e2,e3⟩:=hx i (by omega);obtain ⟨x',e1',e2',e3'⟩:=hx j hj;have eg:S.getD i 0=x:=by rw [GP,e1];rfl
   have eg':S.getD j 0=x':=by rw [GP,e1'];rfl
   have hlt:lt x x'=true:=by
    obtain ⟨u1,u2⟩:=Gh.mp e1;obtain ⟨u3,u4⟩:=Gh.mp e1';have:=HE.mp hp i j u1 u3 z
    rwa [u2,u4] at this
   try dsimp only at e ⊢
   rw [eg'] at e;rw [eg];cases left with
   | true =>
    rw [Gs rfl] at e ⊢;exact O.tr _ _ _ hlt e
   | false =>
    rw [Gy GV] at e ⊢;cases e2:lt y x with
    | false=>rfl
    | true=>rw [O.tr _ _ _ e2 hlt] at e;exact e
  ·exact e
 ·obtain ⟨S1,S2,rfl,e,b1,b2⟩:=l9 (S:=S) (P:=fun x=>if left then lt x y else !lt y x) (k:=k) (by omega)
   (fun i hi x e=>by have:=a1 i hi;rwa [GP,e] at this)
   (fun i hi hi' x e=>by have:=a2 i hi (by omega);rwa [GP,e] at this)
  rw [<- e];exact h S1 S2 rfl b1 b2
end
open PySem PySem.Spec PyProof.Rows PySem.W
noncomputable def iP:Array Keyed->Array Keyed->StateT SortSt Sem (Array Keyed):=sortPriv% PySem.Builtin.mergeLo
noncomputable def o9:Nat->StateT SortSt Sem Unit:=sortPriv% PySem.Builtin.setMinGallop
theorem fQ (g:Nat):o9 g=modify fun s=>SortSt.mk' (PyProof.Rows.kindOf s) (arrOf s) (pendingOf s) g (failedOf s):=rfl
abbrev CL:=Option (Array Keyed)×Array Keyed×Nat×Nat×Nat×Nat
abbrev CG:=Option (Array Keyed)×Array Keyed×Nat×Nat×Nat×Nat×Nat
abbrev fA (a b out:Array Keyed) (ia ib:Nat):=out++a.extract ia a.size++b.extract ib b.size
abbrev fL (a b out:Array Keyed) (ia ib:Nat):=out++b.extract ib b.size++a.extract ia a.size
noncomputable def lo1 (a b:Array Keyed) (mg:Nat) (c:CL):StateT SortSt Sem (ForInStep CL):=do
 let some bWins<-lt' (<- elem' b c.2.2.2.1) (<- elem' a c.2.2.1) | return .done (some (fA a b c.2.1 c.2.2.1 c.2.2.2.1),c.2)
 if bWins then
  let x<-elem' b c.2.2.2.1
  if c.2.2.2.1+1==b.size then return .done (some (fA a b (c.2.1.push x) c.2.2.1 (c.2.2.2.1+1)),c.2.1.push x,c.2.2.1,c.2.2.2.1+1,0,c.2.2.2.2.2+1)
  if c.2.2.2.2.2+1>=mg then return .done (none,c.2.1.push x,c.2.2.1,c.2.2.2.1+1,0,c.2.2.2.2.2+1)
  return .yield (none,c.2.1.push x,c.2.2.1,c.2.2.2.1+1,0,c.2.2.2.2.2+1)
 else
  let x<-elem' a c.2.2.1
  if c.2.2.1+1+1==a.size then return .done (some (fL a b (c.2.1.push x) (c.2.2.1+1) c.2.2.2.1),c.2.1.push x,c.2.2.1+1,c.2.2.2.1,c.2.2.2.2.1+1,0)
  if c.2.2.2.2.1+1>=mg then return .done (none,c.2.1.push x,c.2.2.1+1,c.2.2.2.1,c.2.2.2.2.1+1,0)
  return .yield (none,c.2.1.push x,c.2.2.1+1,c.2.2.2.1,c.2.2.2.2.1+1,0)
noncomputable def lo4 (a b out:Array Keyed) (ia ib mg k k1:Nat):StateT SortSt Sem (ForInStep CG):=do
 let x<-elem' a ia
 if ia+1+1==a.size then return .done (some (fL a b (out.push x) (ia+1) ib),out.push x,ia+1,ib,mg,k,k1)
 if k < 7&&k1 < 7 then return .done (none,out.push x,ia+1,ib,mg,k,k1)
 return .yield (none,out.push x,ia+1,ib,mg,k,k1)
noncomputable def lo3 (a b out:Array Keyed) (ia ib mg k bc:Nat):StateT SortSt Sem (ForInStep CG):=do
 let x<-elem' b ib
 if ib+1==b.size then return .done (some (fA a b (out.push x) ia (ib+1)),out.push x,ia,ib+1,mg,k,bc)
 let some k1<-de true (<- elem' a ia) b (ib+1) (b.size - (ib+1)) 0 | return .done (some (fA a b (out.push x) ia (ib+1)),out.push x,ia,ib+1,mg,k,bc)
 if k1 > 0 then
  if ib+1+k1==b.size then return .done (some (fA a b (out.push x++b.extract (ib+1) (ib+1+k1)) ia (ib+1+k1)),out.push x++b.extract (ib+1) (ib+1+k1),ia,ib+1+k1,mg,k,k1)
  else lo4 a b (out.push x++b.extract (ib+1) (ib+1+k1)) ia (ib+1+k1) mg k k1
 else lo4 a b (out.push x) ia (ib+1) mg k k1
noncomputable def lo2 (a b out:Array Keyed) (ia ib mg ac bc:Nat):StateT SortSt Sem (ForInStep CG):=do
 o9 mg
 let some k<-de false (<- elem' b ib) a ia (a.size - ia) 0 | return .done (some (fA a b out ia ib),out,ia,ib,mg,ac,bc)
 if k > 0 then
  if ia+k+1==a.size then return .done (some (fL a b (out++a.extract ia (ia+k)) (ia+k) ib),out++a.extract ia (ia+k),ia+k,ib,mg,k,bc)
  else
   if ia+k==a.size then return .done (some (fA a b (out++a.extract ia (ia+k)) (ia+k) ib),out++a.extract ia (ia+k),ia+k,ib,mg,k,bc)
   else lo3 a b (out++a.extract ia (ia+k)) (ia+k) ib mg k bc
 else lo3 a b out ia ib mg k bc
theorem kN (a b:Array Keyed):iP a b=(do
 rule "list.sort.merge-lo"
 let x<-elem' b 0
 if 1==b.size then return fA a b #[x] 0 1
 if 0+1==a.size then return fL a b #[x] 0 1
 let st<-get
 let r<-forIn [0:a.size+b.size] ((none,#[x],0,1,gallopOf st):Option (Array Keyed)×Array Keyed×Nat×Nat×Nat) fun _ c=>do
  let d<-forIn [0:a.size+b.size] ((none,c.2.1,c.2.2.1,c.2.2.2.1,0,0):CL) fun _ c'=>lo1 a b c.2.2.2.2 c'
  match d.1 with
  | some r=>pure (.done (some r,d.2.1,d.2.2.1,d.2.2.2.1,c.2.2.2.2))
  | none=>do
   rule "list.sort.gallop"
   let e<-forIn [0:a.size+b.size] ((none,d.2.1,d.2.2.1,d.2.2.2.1,c.2.2.2.2+1,d.2.2.2.2.1,d.2.2.2.2.2):CG) fun _ c' =>
    if c'.2.2.2.2.1 > 1 then lo2 a b c'.2.1 c'.2.2.1 c'.2.2.2.1 (c'.2.2.2.2.1 - 1) c'.2.2.2.2.2.1 c'.2.2.2.2.2.2
    else lo2 a b c'.2.1 c'.2.2.1 c'.2.2.2.1 c'.2.2.2.2.1 c'.2.2.2.2.2.1 c'.2.2.2.2.2.2
   match e.1 with
   | some r=>pure (.done (some r,e.2.1,e.2.2.1,e.2.2.2.1,e.2.2.2.2.1))
   | none=>do
    o9 (e.2.2.2.2.1+1)
    pure (.yield (none,e.2.1,e.2.2.1,e.2.2.2.1,e.2.2.2.2.1+1))
 match r.1 with
 | some r=>pure r
 | none=>unsupported "internal:list.sort.merge-bound"):=by
 unfold iP;refine bindC rfl fun _=>?_;dsimp only;refine Iz fun x=>?_;congr 1;congr 1;refine Iz fun st=>?_;have:∀ {α β:Type} {m m':StateT SortSt Sem α} {f f':α->StateT SortSt Sem β},m=m'->f=f'->(m>>=f)=(m'>>=f'):=by rintro _ _ _ _ _ _ rfl rfl;rfl
 refine this ?_ ?_
 ·congr 1;funext _ c;refine this ?_ ?_
  ·congr 1
  ·funext d;cases d.1 with
   | some=>rfl
   | none =>
    dsimp only;refine Iz fun _=>?_;refine this ?_ ?_
    ·congr 1
    ·funext d;cases d.1 <;> rfl
 ·funext r;cases r.1 <;> rfl
open PySem PySem.Spec PyProof.Rows PySem.W
section
variable {M:Model} {E:Value->Shared->Prop} {Ar:Around} {s:Shared} {F:Nat->Keyed} {lt:Nat->Nat->Bool} {N:Nat} {κ:SortKind} {X:Array Keyed} {pd:Array (Nat×Nat×Nat)} {la lb tot:List Nat}
def FI (F:Nat->Keyed) (lt:Nat->Nat->Bool) (κ:SortKind) (X:Array Keyed) (pd:Array (Nat×Nat×Nat)) (tot:List Nat) (r:Array Keyed) (st:SortSt):Prop:=∃ o g,r=arK F o/\st=SortSt.mk' κ X pd g none/\o.Pairwise (fun x y=>lt x y=true)/\o.Perm tot
def LI (F:Nat->Keyed) (lt:Nat->Nat->Bool) (κ:SortKind) (X:Array Keyed) (pd:Array (Nat×Nat×Nat)) (tot la lb:List Nat) (L:Nat) (out:Array Keyed) (ia ib:Nat) (st:SortSt):Prop :=
 ∃ o g,out=arK F o/\st=SortSt.mk' κ X pd g none/\L<=o.length/\Mg lt tot o (la.drop ia) (lb.drop ib)/\ia+1 < la.length/\ib < lb.length
def RD (F:Nat->Keyed) (lt:Nat->Nat->Bool) (κ:SortKind) (X:Array Keyed) (pd:Array (Nat×Nat×Nat)) (tot la lb:List Nat) (L:Nat) (c:Option (Array Keyed)) (out:Array Keyed) (ia ib:Nat) (st:SortSt):Prop :=
 (∃ r,c=some r/\FI F lt κ X pd tot r st)\/(c=none/\LI F lt κ X pd tot la lb L out ia ib st)
def RG (F:Nat->Keyed) (lt:Nat->Nat->Bool) (κ:SortKind) (X:Array Keyed) (pd:Array (Nat×Nat×Nat)) (tot la lb:List Nat) (L:Nat):ForInStep CG->SortSt->Prop
 | .done c,st=>RD F lt κ X pd tot la lb L c.1 c.2.1 c.2.2.1 c.2.2.2.1 st
 | .yield c,st=>c.1=none/\LI F lt κ X pd tot la lb L c.2.1 c.2.2.1 c.2.2.2.1 st
theorem zT {o:List Nat} {ia ib g:Nat} (h:Mg lt tot o (la.drop ia) (lb.drop ib)) (e:la.length<=ia\/lb.length<=ib):FI F lt κ X pd tot (fA (arK F la) (arK F lb) (arK F o) ia ib) (SortSt.mk' κ X pd g none):=by
 refine ⟨o++la.drop ia++lb.drop ib,g,by unfold fA;rw [aT,aT,mB,mB,cq,cq],rfl,?_,by rw [GI];exact h.pm⟩;rcases e with e | e
 ·rw [List.drop_eq_nil_of_le e,Hx];exact h.sb
 ·rw [List.drop_eq_nil_of_le e,Hx];exact h.sa
theorem Bz {o:List Nat} {ia ib g z:Nat} (hz:la[la.length - 1]?=some z) (hz':∀ y∈lb,lt y z=true) (h:Mg lt tot o (la.drop ia) (lb.drop ib)) (e:ia+1=la.length):FI F lt κ X pd tot (fL (arK F la) (arK F lb) (arK F o) ia ib) (SortSt.mk' κ X pd g none):=by
 have ez:la.drop ia=[z]:=by rw [a9 (x:=z) (by rw [<- hz];congr 1;omega),List.drop_eq_nil_of_le (by omega)]
 refine ⟨o++lb.drop ib++la.drop ia,g,by unfold fL;rw [aT,aT,mB,mB,cq,cq],rfl,?_,by rw [GI];exact h.symm.pm⟩;have h2:=h.symm;rw [<- Hx (lb.drop ib)] at h2;refine (h2.left fun y hy w hw=>?_).symm.sa;rw [ez,Gn] at hw;subst hw;exact hz' y (List.mem_of_mem_drop hy)
theorem fJ {l S1 S2:List Nat} {i:Nat} (h:l.drop i=S1++S2):l.drop (i+S1.length)=S2:=by rw [<- List.drop_drop,h,Jj]
theorem lx {l S1 S2:List Nat} {i:Nat} (h:l.drop i=S1++S2):l.length - i=S1.length+S2.length:=by rw [<- HC,h,Gf]
theorem uJ {l S1 S2:List Nat} {i:Nat} (h:l.drop i=S1++S2):(arK F l).extract i (i+S1.length)=arK F S1:=by rw [mL,h,Ik,List.take_left]
theorem ue {o:List Nat} {ia ib mg k k1 x g z L:Nat} (hz:la[la.length - 1]?=some z) (hz':∀ y∈lb,lt y z=true) (h:Mg lt tot o (la.drop ia) (lb.drop ib)) (ha:ia+1 < la.length) (hb:ib < lb.length) (hx:la[ia]?=some x) (q:∀ y∈lb.drop ib,lt x y=true) (hL:L<=o.length+1) :
  wpS M Ar E s (lo4 (arK F la) (arK F lb) (arK F o) ia ib mg k k1) (RG F lt κ X pd tot la lb L) (SortSt.mk' κ X pd g none):=by
 unfold lo4;refine aM hx ?_;rw [cF,aT];have h':Mg lt tot (o++[x]) (la.drop (ia+1)) (lb.drop ib):=by
  rw [a9 hx] at h;exact Mg.left (A1:=[x]) h fun w hw y hy=>by rw [Gn] at hw;subst hw;exact q y hy
 have hL':L<=(o++[x]).length:=by rw [Gf];exact hL
 by_cases c:ia+1+1=la.length
 ·rw [Gs (by rw [c];exact HM _)];exact GF (.inl ⟨_,rfl,Bz hz hz' h' c⟩)
 ·rw [Gy (by rw [Hl];exact c)];split
  ·exact GF (.inr ⟨rfl,_,_,rfl,rfl,hL',h',by dsimp only;omega,hb⟩)
  ·exact GF ⟨rfl,_,_,rfl,rfl,hL',h',by dsimp only;omega,hb⟩
variable (O:Ord lt N) (nd:tot.Nodup) (bd:∀ x∈tot,x < N) (hc:Cmp M Ar E s F lt N κ)
include O nd bd hc
theorem uA {o:List Nat} {ia ib mg k bc y g z L:Nat} (hz:la[la.length - 1]?=some z) (hz':∀ y∈lb,lt y z=true) (h:Mg lt tot o (la.drop ia) (lb.drop ib)) (ha:ia+1 < la.length) (hb:ib < lb.length) (hy:lb[ib]?=some y) (q:∀ x∈la.drop ia,lt y x=true) (hL:L<=o.length+1) :
  wpS M Ar E s (lo3 (arK F la) (arK F lb) (arK F o) ia ib mg k bc) (RG F lt κ X pd tot la lb L) (SortSt.mk' κ X pd g none):=by
 unfold lo3;refine aM hy ?_;rw [cF,aT];have h':Mg lt tot (o++[y]) (la.drop ia) (lb.drop (ib+1)):=by
  rw [a9 hy] at h;exact Mg.right (B1:=[y]) h fun w hw v hv=>by rw [Gn] at hw;subst hw;exact q v hv
 have hL':L<=(o++[y]).length:=by rw [Gf];exact hL
 by_cases c:ib+1=lb.length
 ·rw [Gs (by rw [c];exact HM _)];exact GF (.inl ⟨_,rfl,zT h' (.inr (by omega))⟩)
 ·rw [Gy (by rw [Hl];exact c)];obtain ⟨x,hx⟩:∃ x,la[ia]?=some x:=⟨_,Gd (by omega)⟩;refine aM hx ?_;have hxm:x∈la.drop ia:=by rw [a9 hx];exact Gm ..
  refine GL (nq (S:=lb.drop (ib+1)) O hc rfl (Hw (by simp)) (by simp) (GJ.mp h'.sb).2.1 (fun w hw=>bd _ (h'.inB hw)) (bd _ (h'.inA hxm)) (by omega) fun S1 S2 eS q1 q2=>?_);dsimp only;have q2':∀ w∈S2,lt x w=true:=fun w hw=>by
   have:=q2 w hw;rw [Gs rfl] at this;exact h'.les O nd bd hxm (by rw [eS];exact Gr _ hw) this
  have h2:Mg lt tot (o++[y]++S1) (la.drop ia) (lb.drop (ib+1+S1.length)):=by
   rw [fJ eS];rw [eS] at h';refine h'.right ?_;rw [a9 hx] at h' ⊢;exact h'.symm.low O fun w hw=>q1 w hw
  by_cases c2:S1.length > 0
  ·rw [Gs c2,uJ eS,cq];by_cases c3:ib+1+S1.length=lb.length
   ·rw [Gs (by rw [c3];exact HM _)];exact GF (.inl ⟨_,rfl,zT h2 (.inr (by omega))⟩)
   ·rw [Gy (by rw [Hl];exact c3)];refine ue hz hz' h2 ha ?_ hx (by rw [fJ eS];exact q2') (by rw [Gf];omega);have:=lx eS;omega
  ·rw [Gy c2];have e0:S1=[]:=GZ (by omega);subst e0;exact ue hz hz' h' ha (by omega) hx (by rw [eS];exact q2') (by omega)
theorem yI {o:List Nat} {ia ib mg ac bc g z L:Nat} (hz:la[la.length - 1]?=some z) (hz':∀ y∈lb,lt y z=true) (h:Mg lt tot o (la.drop ia) (lb.drop ib)) (ha:ia+1 < la.length) (hb:ib < lb.length) (hL:L<=o.length+1) :
  wpS M Ar E s (lo2 (arK F la) (arK F lb) (arK F o) ia ib mg ac bc) (RG F lt κ X pd tot la lb L) (SortSt.mk' κ X pd g none):=by
 unfold lo2;rw [fQ];refine GL (IK ?_);obtain ⟨y,hy⟩:∃ y,lb[ib]?=some y:=⟨_,Gd hb⟩;refine aM hy ?_;have hym:y∈lb.drop ib:=by rw [a9 hy];exact Gm ..
 rw [aT];refine GL (nq (S:=la.drop ia) O hc rfl (Hw (by simp)) (by simp) (GJ.mp h.sa).2.1 (fun w hw=>bd _ (h.inA hw)) (bd _ (h.inB hym)) (by omega) fun S1 S2 eS q1 q2=>?_);dsimp only;have q1':∀ w∈S1,lt w y=true:=fun w hw=>by
  have:=q1 w hw;rw [Gy GV,Iv] at this;exact h.les O nd bd (by rw [eS];exact GQ _ hw) hym this
 have q2':∀ w∈S2,lt y w=true:=fun w hw=>by
  have:=q2 w hw
  rwa [Gy GV,Bool.not_eq_false'] at this
 have h2:Mg lt tot (o++S1) (la.drop (ia+S1.length)) (lb.drop ib):=by
  rw [fJ eS];rw [eS] at h;refine h.left ?_;rw [a9 hy] at h ⊢;exact h.low O q1'
 have hl:=lx eS;by_cases c2:S1.length > 0
 ·rw [Gs c2,uJ eS,cq];by_cases c3:ia+S1.length+1=la.length
  ·rw [Gs (by rw [c3];exact HM _)];exact GF (.inl ⟨_,rfl,Bz hz hz' h2 c3⟩)
  ·rw [Gy (by rw [Hl];exact c3)];by_cases c4:ia+S1.length=la.length
   ·rw [Gs (by rw [c4];exact HM _)];exact GF (.inl ⟨_,rfl,zT h2 (.inl (by omega))⟩)
   ·rw [Gy (by rw [Hl];exact c4)];exact uA O nd bd hc hz hz' h2 (by omega) hb hy (by rw [fJ eS];exact q2') (by rw [Gf];omega)
 ·rw [Gy c2];have e0:S1=[]:=GZ (by omega);subst e0;exact uA O nd bd hc hz hz' h ha hb hy (by rw [eS];exact q2') hL
theorem yy {o:List Nat} {ia ib mg ac bc g z L:Nat} (hz:la[la.length - 1]?=some z) (hz':∀ y∈lb,lt y z=true) (h:Mg lt tot o (la.drop ia) (lb.drop ib)) (ha:ia+1 < la.length) (hb:ib < lb.length) (hL:L<=o.length+1) :
  wpS M Ar E s (lo1 (arK F la) (arK F lb) mg (none,arK F o,ia,ib,ac,bc)) (fun r st=>(∃ c,r=.done c/\RD F lt κ X pd tot la lb L c.1 c.2.1 c.2.2.1 c.2.2.2.1 st)\/∃ c,r=.yield c/\c.1=none/\LI F lt κ X pd tot la lb L c.2.1 c.2.2.1 c.2.2.2.1 st) (SortSt.mk' κ X pd g none):=by
 unfold lo1;obtain ⟨y,hy⟩:∃ y,lb[ib]?=some y:=⟨_,Gd hb⟩;obtain ⟨x,hx⟩:∃ x,la[ia]?=some x:=⟨_,Gd (by omega)⟩;have hxm:x∈la.drop ia:=by rw [a9 hx];exact Gm ..
 have hym:y∈lb.drop ib:=by rw [a9 hy];exact Gm ..
 dsimp only;refine aM hy (aM hx (GL (hc _ _ _ _ rfl (bd _ (h.inB hym)) (bd _ (h.inA hxm)) ?_)));dsimp only;cases e:lt y x with
 | true =>
  rw [Gs rfl];refine aM hy ?_;rw [cF,aT];have h':Mg lt tot (o++[y]) (la.drop ia) (lb.drop (ib+1)):=by
   rw [a9 hy] at h;refine Mg.right (B1:=[y]) h ?_;rw [a9 hx] at h ⊢;exact h.rh O e
  have hL':L<=(o++[y]).length:=by rw [Gf];exact hL
  by_cases c:ib+1=lb.length
  ·rw [Gs (by rw [c];exact HM _)];exact GF (.inl ⟨_,rfl,.inl ⟨_,rfl,zT h' (.inr (by omega))⟩⟩)
  ·rw [Gy (by rw [Hl];exact c)];split
   ·exact GF (.inl ⟨_,rfl,.inr ⟨rfl,_,_,rfl,rfl,hL',h',ha,by dsimp only;omega⟩⟩)
   ·exact GF (.inr ⟨_,rfl,rfl,_,_,rfl,rfl,hL',h',ha,by dsimp only;omega⟩)
 | false =>
  rw [Gy GV];refine aM hx ?_;rw [cF,aT];have e':=h.les O nd bd hxm hym e;have h':Mg lt tot (o++[x]) (la.drop (ia+1)) (lb.drop ib):=by
   rw [a9 hx] at h;refine Mg.left (A1:=[x]) h ?_;rw [a9 hy] at h ⊢;exact h.symm.rh O e'
  have hL':L<=(o++[x]).length:=by rw [Gf];exact hL
  by_cases c:ia+1+1=la.length
  ·rw [Gs (by rw [c];exact HM _)];exact GF (.inl ⟨_,rfl,.inl ⟨_,rfl,Bz hz hz' h' c⟩⟩)
  ·rw [Gy (by rw [Hl];exact c)];split
   ·exact GF (.inl ⟨_,rfl,.inr ⟨rfl,_,_,rfl,rfl,hL',h',by dsimp only;omega,hb⟩⟩)
   ·exact GF (.inr ⟨_,rfl,rfl,_,_,rfl,rfl,hL',h',by dsimp only;omega,hb⟩)
theorem oA {g z y:Nat} {B:List Nat} {Q:Array Keyed->SortSt->Prop} (hz:la[la.length - 1]?=some z) (hz':∀ y∈lb,lt y z=true) (hy:lb=y :: B) (hy':∀ x∈la,lt y x=true) (sa:la.Pairwise fun x y=>lt x y=true) (sb:lb.Pairwise fun x y=>lt x y=true) (et:tot=la++lb)
  (h:∀ r st,FI F lt κ X pd tot r st->Q r st):wpS M Ar E s (iP (arK F la) (arK F lb)) Q (SortSt.mk' κ X pd g none):=by
 have hal:1<=la.length:=by
  rcases Nat.eq_zero_or_pos la.length with e | e
  ·rw [GZ e] at hz;cases hz
  ·exact e
 have hbl:lb.length=B.length+1:=by rw [hy];rfl
 have hl:tot.length=la.length+lb.length:=by rw [et,Gf]
 have h0:Mg lt tot [y] (la.drop 0) (lb.drop 1):=by
  have m0:Mg lt tot [] la (y :: B):=⟨sa,by rw [<- hy];exact sb,by rw [<- hy,<-et];exact HJ _⟩;rw [hy];exact Mg.right (B1:=[y]) m0 fun w hw x hx=>by rw [Gn] at hw;subst hw;exact hy' x hx
 rw [kN];refine GL (wpS_lift (Iw ⟨rfl,?_⟩));refine aM (x:=y) (by rw [hy];rfl) ?_;rw [show (#[F y]:Array Keyed)=arK F [y] from rfl,aT,aT];by_cases c:1=lb.length
 ·rw [Gs (by rw [<- c];rfl)];exact GF (h _ _ (zT h0 (.inr (by omega))))
 rw [Gy (by rw [Hl];exact c)];by_cases c:0+1=la.length
 ·rw [Gs (by rw [<- c];rfl)];exact GF (h _ _ (Bz hz hz' h0 c))
 rw [Gy (by rw [Hl];exact c)];refine GL (Ju ?_);refine GL (HX (HB (I:=fun i (c:Option (Array Keyed)×Array Keyed×Nat×Nat×Nat) st=>c.1=none/\LI F lt κ X pd tot la lb (i+1) c.2.1 c.2.2.1 c.2.2.2.1 st) (Q:=fun (c:Option (Array Keyed)×Array Keyed×Nat×Nat×Nat) st=>∃ r,c.1=some r/\FI F lt κ X pd tot r st) ?_ ?_ ⟨rfl,[y],_,rfl,rfl,Gu _,h0,by dsimp only;omega,by dsimp only;omega⟩) ?_)
 ·rintro i ⟨r,out,ia,ib,mg⟩ st _ hi ⟨e,o,g,e1,rfl,hL,hM,ha,hb⟩;dsimp only at e e1 hM ha hb ⊢;subst e e1;refine GL (HX (HB (I:=fun j (c:CL) st=>c.1=none/\LI F lt κ X pd tot la lb (i+1+min j 1) c.2.1 c.2.2.1 c.2.2.2.1 st) (Q:=fun (c:CL) st=>RD F lt κ X pd tot la lb (i+2) c.1 c.2.1 c.2.2.1 c.2.2.2.1 st) ?_ ?_ ⟨rfl,o,_,rfl,rfl,hL,hM,ha,hb⟩) ?_)
  ·rintro j ⟨r,out,ia,ib,ac,bc⟩ st _ hj ⟨e,o,g,e1,rfl,hL,hM,ha,hb⟩;dsimp only at e e1 hM ha hb hL ⊢;subst e e1;refine HX (yy O nd bd hc (L:=i+2) hz hz' hM ha hb (by omega)) ?_;rintro r st (⟨c,rfl,q⟩ | ⟨c,rfl,e,o,g,q1,q2,q3,q4⟩)
   ·exact q
   ·exact ⟨e,o,g,q1,q2,by omega,q4⟩
  ·rintro ⟨r,out,ia,ib,ac,bc⟩ st ⟨e,o,g,q1,q2,q3,q4⟩;exact .inr ⟨e,o,g,q1,q2,by omega,q4⟩
  ·rintro ⟨r,out,ia,ib,ac,bc⟩ st (⟨r,e,q⟩ | ⟨e,o,g,e1,rfl,hL,hM,ha,hb⟩)
   ·dsimp only at e ⊢;subst e;exact GF ⟨r,rfl,q⟩
   dsimp only at e e1 hM ha hb hL ⊢;subst e e1;refine GL (wpS_lift (Iw ⟨rfl,?_⟩));refine GL (HX (HB (I:=fun j (c:CG) st=>c.1=none/\LI F lt κ X pd tot la lb (i+2) c.2.1 c.2.2.1 c.2.2.2.1 st) (Q:=fun (c:CG) st=>RD F lt κ X pd tot la lb (i+2) c.1 c.2.1 c.2.2.1 c.2.2.2.1 st) ?_ ?_ ⟨rfl,o,_,rfl,rfl,hL,hM,ha,hb⟩) ?_)
   ·rintro j ⟨r,out,ia,ib,mg,ac,bc⟩ st _ hj ⟨e,o,g,e1,rfl,hL,hM,ha,hb⟩;dsimp only at e e1 hM ha hb hL ⊢;subst e e1;split
    all_goals
     refine HX (yI O nd bd hc (L:=i+2) hz hz' hM ha hb (by omega)) ?_;rintro (c | c) st q
     ·exact q
     ·exact q
   ·rintro ⟨r,out,ia,ib,mg,ac,bc⟩ st ⟨e,q⟩;exact .inr ⟨e,q⟩
   ·rintro ⟨r,out,ia,ib,mg,ac,bc⟩ st (⟨r,e,q⟩ | ⟨e,o,g,e1,rfl,hL,hM,ha,hb⟩)
    ·dsimp only at e ⊢;subst e;exact GF ⟨r,rfl,q⟩
    dsimp only at e e1 hM ha hb hL ⊢;subst e e1;rw [fQ];exact GL (IK (GF ⟨rfl,o,_,rfl,rfl,hL,hM,ha,hb⟩))
 ·rintro ⟨r,out,ia,ib,mg⟩ st ⟨e,o,g,e1,rfl,hL,hM,ha,hb⟩;exfalso;have:=hM.len;rw [HC,HC] at this;dsimp only at this ha hb;omega
 ·rintro ⟨r,out,ia,ib,mg⟩ st ⟨r,e,q⟩;dsimp only at e ⊢;subst e;exact GF (h _ _ q)
end
open PySem PySem.Spec PyProof.Rows PySem.W
noncomputable def i9:Array Keyed->Array Keyed->StateT SortSt Sem (Array Keyed):=sortPriv% PySem.Builtin.mergeHi
abbrev DL:=Option (Array Keyed)×Nat×Nat×Array Keyed×Nat×Nat
abbrev DG:=Option (Array Keyed)×Nat×Nat×Array Keyed×Nat×Nat×Nat
abbrev gA (a b out:Array Keyed) (na nb:Nat):=a.extract 0 na++b.extract 0 nb++out.reverse
abbrev gB (a b out:Array Keyed) (na nb:Nat):=b.extract 0 nb++a.extract 0 na++out.reverse
noncomputable def hi1 (a b:Array Keyed) (mg:Nat) (c:DL):StateT SortSt Sem (ForInStep DL):=do
 let some aWins<-lt' (<- elem' b (c.2.2.1 - 1)) (<- elem' a (c.2.1 - 1)) | return .done (some (gA a b c.2.2.2.1 c.2.1 c.2.2.1),c.2)
 if aWins then
  let x<-elem' a (c.2.1 - 1)
  if c.2.1 - 1==0 then return .done (some (gA a b (c.2.2.2.1.push x) (c.2.1 - 1) c.2.2.1),c.2.1 - 1,c.2.2.1,c.2.2.2.1.push x,c.2.2.2.2.1+1,0)
  if c.2.2.2.2.1+1>=mg then return .done (none,c.2.1 - 1,c.2.2.1,c.2.2.2.1.push x,c.2.2.2.2.1+1,0)
  return .yield (none,c.2.1 - 1,c.2.2.1,c.2.2.2.1.push x,c.2.2.2.2.1+1,0)
 else
  let x<-elem' b (c.2.2.1 - 1)
  if c.2.2.1 - 1==1 then return .done (some (gB a b (c.2.2.2.1.push x) c.2.1 (c.2.2.1 - 1)),c.2.1,c.2.2.1 - 1,c.2.2.2.1.push x,0,c.2.2.2.2.2+1)
  if c.2.2.2.2.2+1>=mg then return .done (none,c.2.1,c.2.2.1 - 1,c.2.2.2.1.push x,0,c.2.2.2.2.2+1)
  return .yield (none,c.2.1,c.2.2.1 - 1,c.2.2.2.1.push x,0,c.2.2.2.2.2+1)
noncomputable def hi4 (a b out:Array Keyed) (na nb mg k k1:Nat):StateT SortSt Sem (ForInStep DG):=do
 let x<-elem' a (na - 1)
 if na - 1==0 then return .done (some (gA a b (out.push x) (na - 1) nb),na - 1,nb,out.push x,mg,k,k1)
 if k < 7&&k1 < 7 then return .done (none,na - 1,nb,out.push x,mg,k,k1)
 return .yield (none,na - 1,nb,out.push x,mg,k,k1)
noncomputable def hi3 (a b out:Array Keyed) (na nb mg k bc:Nat):StateT SortSt Sem (ForInStep DG):=do
 let x<-elem' b (nb - 1)
 if nb - 1==1 then return .done (some (gB a b (out.push x) na (nb - 1)),na,nb - 1,out.push x,mg,k,bc)
 let some k1<-de true (<- elem' a (na - 1)) b 0 (nb - 1) (nb - 1 - 1) | return .done (some (gA a b (out.push x) na (nb - 1)),na,nb - 1,out.push x,mg,k,bc)
 if nb - 1 - k1 > 0 then
  if k1==1 then return .done (some (gB a b (out.push x++(b.extract k1 (nb - 1)).reverse) na k1),na,k1,out.push x++(b.extract k1 (nb - 1)).reverse,mg,k,nb - 1 - k1)
  else
   if k1==0 then return .done (some (gA a b (out.push x++(b.extract k1 (nb - 1)).reverse) na k1),na,k1,out.push x++(b.extract k1 (nb - 1)).reverse,mg,k,nb - 1 - k1)
   else hi4 a b (out.push x++(b.extract k1 (nb - 1)).reverse) na k1 mg k (nb - 1 - k1)
 else hi4 a b (out.push x) na (nb - 1) mg k (nb - 1 - k1)
noncomputable def hi2 (a b out:Array Keyed) (na nb mg ac bc:Nat):StateT SortSt Sem (ForInStep DG):=do
 o9 mg
 let some k<-de false (<- elem' b (nb - 1)) a 0 na (na - 1) | return .done (some (gA a b out na nb),na,nb,out,mg,ac,bc)
 if na - k > 0 then
  if k==0 then return .done (some (gA a b (out++(a.extract k na).reverse) k nb),k,nb,out++(a.extract k na).reverse,mg,na - k,bc)
  else hi3 a b (out++(a.extract k na).reverse) k nb mg (na - k) bc
 else hi3 a b out na nb mg (na - k) bc
theorem k5 (a b:Array Keyed):i9 a b=(do
 rule "list.sort.merge-hi"
 let x<-elem' a (a.size - 1)
 if a.size - 1==0 then return gA a b #[x] (a.size - 1) b.size
 if b.size==1 then return gB a b #[x] (a.size - 1) b.size
 let st<-get
 let r<-forIn [0:a.size+b.size] ((none,a.size - 1,b.size,#[x],gallopOf st):Option (Array Keyed)×Nat×Nat×Array Keyed×Nat) fun _ c=>do
  let d<-forIn [0:a.size+b.size] ((none,c.2.1,c.2.2.1,c.2.2.2.1,0,0):DL) fun _ c'=>hi1 a b c.2.2.2.2 c'
  match d.1 with
  | some r=>pure (.done (some r,d.2.1,d.2.2.1,d.2.2.2.1,c.2.2.2.2))
  | none=>do
   rule "list.sort.gallop"
   let e<-forIn [0:a.size+b.size] ((none,d.2.1,d.2.2.1,d.2.2.2.1,c.2.2.2.2+1,d.2.2.2.2.1,d.2.2.2.2.2):DG) fun _ c' =>
    if c'.2.2.2.2.1 > 1 then hi2 a b c'.2.2.2.1 c'.2.1 c'.2.2.1 (c'.2.2.2.2.1 - 1) c'.2.2.2.2.2.1 c'.2.2.2.2.2.2
    else hi2 a b c'.2.2.2.1 c'.2.1 c'.2.2.1 c'.2.2.2.2.1 c'.2.2.2.2.2.1 c'.2.2.2.2.2.2
   match e.1 with
   | some r=>pure (.done (some r,e.2.1,e.2.2.1,e.2.2.2.1,e.2.2.2.2.1))
   | none=>do
    o9 (e.2.2.2.2.1+1)
    pure (.yield (none,e.2.1,e.2.2.1,e.2.2.2.1,e.2.2.2.2.1+1))
 match r.1 with
 | some r=>pure r
 | none=>unsupported "internal:list.sort.merge-bound"):=by
 unfold i9;refine bindC rfl fun _=>?_;dsimp only;refine Iz fun x=>?_;congr 1;congr 1;refine Iz fun st=>?_;have:∀ {α β:Type} {m m':StateT SortSt Sem α} {f f':α->StateT SortSt Sem β},m=m'->f=f'->(m>>=f)=(m'>>=f'):=by rintro _ _ _ _ _ _ rfl rfl;rfl
 refine this ?_ ?_
 ·congr 1;funext _ c;refine this ?_ ?_
  ·congr 1
  ·funext d;cases d.1 with
   | some=>rfl
   | none =>
    dsimp only;refine Iz fun _=>?_;refine this ?_ ?_
    ·congr 1
    ·funext d;cases d.1 <;> rfl
 ·funext r;cases r.1 <;> rfl
open PySem PySem.Spec PyProof.Rows PySem.W
section
variable {M:Model} {E:Value->Shared->Prop} {Ar:Around} {s:Shared} {F:Nat->Keyed} {lt:Nat->Nat->Bool} {N:Nat} {κ:SortKind} {X:Array Keyed} {pd:Array (Nat×Nat×Nat)} {la lb tot:List Nat}
theorem Ord.flip (O:Ord lt N):Ord (fun x y=>lt y x) N:=⟨O.irr,fun i j k a b=>O.tr _ _ _ b a,fun i j hi hj hn e=>O.tot j i hj hi (Ne.symm hn) e⟩
abbrev tkR (l:List Nat) (n:Nat):List Nat:=(l.take n).reverse
theorem e8 {l:List Nat} {n x:Nat} (hn:0 < n) (h:l[n - 1]?=some x):tkR l n=x :: tkR l (n - 1):=by
 obtain ⟨m,rfl⟩:∃ m,n=m+1:=⟨n - 1,by omega⟩;rw [Nat.add_sub_cancel] at h ⊢;obtain ⟨hi,e⟩:=Gh.mp h;unfold tkR;rw [List.take_add_one,h,List.reverse_append];rfl
theorem pK {l:List Nat} {n:Nat} (h:n<=l.length):(tkR l n).length=n:=by rw [Je,GX];omega
theorem jf {l S1 S2:List Nat} {n:Nat} (h:l.take n=S1++S2):l.take S1.length=S1:=by
 have:(l.take n).take S1.length=S1:=by rw [h,List.take_left]
 rw [List.take_take] at this;have e:S1.length<=n:=by
  have h2:=congrArg List.length h;rw [GX,Gf] at h2;omega
 rwa [Jz e] at this
theorem lh {l S1 S2:List Nat} {n:Nat} (h:l.take n=S1++S2):tkR l n=S2.reverse++tkR l S1.length:=by
 unfold tkR;rw [jf h,h,List.reverse_append]
theorem uU {l S1 S2:List Nat} {n:Nat} (h:l.take n=S1++S2):((arK F l).extract S1.length n).reverse=arK F S2.reverse:=by
 rw [mL,<-List.drop_take,h,Jj,nM]
def HI (F:Nat->Keyed) (lt:Nat->Nat->Bool) (κ:SortKind) (X:Array Keyed) (pd:Array (Nat×Nat×Nat)) (tot la lb:List Nat) (L:Nat) (out:Array Keyed) (na nb:Nat) (st:SortSt):Prop :=
 ∃ o g,out=arK F o/\st=SortSt.mk' κ X pd g none/\L<=o.length/\Mg (fun x y=>lt y x) tot o (tkR la na) (tkR lb nb)/\(0 < na/\na<=la.length)/\1 < nb/\nb<=lb.length
def HD (F:Nat->Keyed) (lt:Nat->Nat->Bool) (κ:SortKind) (X:Array Keyed) (pd:Array (Nat×Nat×Nat)) (tot la lb:List Nat) (L:Nat) (c:Option (Array Keyed)) (out:Array Keyed) (na nb:Nat) (st:SortSt):Prop :=
 (∃ r,c=some r/\FI F lt κ X pd tot r st)\/(c=none/\HI F lt κ X pd tot la lb L out na nb st)
def HG (F:Nat->Keyed) (lt:Nat->Nat->Bool) (κ:SortKind) (X:Array Keyed) (pd:Array (Nat×Nat×Nat)) (tot la lb:List Nat) (L:Nat):ForInStep DG->SortSt->Prop
 | .done c,st=>HD F lt κ X pd tot la lb L c.1 c.2.2.2.1 c.2.1 c.2.2.1 st
 | .yield c,st=>c.1=none/\HI F lt κ X pd tot la lb L c.2.2.2.1 c.2.1 c.2.2.1 st
theorem uR {o A B:List Nat}:(A++B++o.reverse).Perm (o++(A.reverse++B.reverse)) :=
 List.perm_append_comm.trans (List.Perm.append (IS _) (List.Perm.append (IS _).symm (IS _).symm))
theorem ud {o A:List Nat} (h:(o++A.reverse).Pairwise fun x y=>lt y x=true):(A++o.reverse).Pairwise fun x y=>lt x y=true:=by
 have:=Ic.mpr h
 rwa [List.reverse_append,List.reverse_reverse] at this
theorem pU {o:List Nat} {na nb g:Nat} (h:Mg (fun x y=>lt y x) tot o (tkR la na) (tkR lb nb)) (e:na=0\/nb=0):FI F lt κ X pd tot (gA (arK F la) (arK F lb) (arK F o) na nb) (SortSt.mk' κ X pd g none):=by
 refine ⟨la.take na++lb.take nb++o.reverse,g,by unfold gA;rw [lr,lr,nM,cq,cq],rfl,?_,uR.trans h.pm⟩;rcases e with rfl | rfl
 ·rw [List.take_zero,List.nil_append];exact ud h.sb
 ·rw [List.take_zero,Hx];exact ud h.sa
theorem tO {o:List Nat} {na nb g y:Nat} (hy:lb[0]?=some y) (hy':∀ x∈la,lt y x=true) (h:Mg (fun x y=>lt y x) tot o (tkR la na) (tkR lb nb)) (e:nb=1):FI F lt κ X pd tot (gB (arK F la) (arK F lb) (arK F o) na nb) (SortSt.mk' κ X pd g none):=by
 subst e;have ey:tkR lb 1=[y]:=by rw [e8 Nat.one_pos hy];unfold tkR;rfl
 refine ⟨lb.take 1++la.take na++o.reverse,g,by unfold gB;rw [lr,lr,nM,cq,cq],rfl,?_,uR.trans h.symm.pm⟩;rw [<- Hx (tkR la na)] at h
 have h2:=(h.left fun x hx w hw=>by
  rw [ey,Gn] at hw;subst hw
  exact hy' x (Jc (Ib.mp hx))).sb
 have:=Ic.mpr h2;unfold tkR at this;simpa only [List.reverse_append,List.reverse_reverse,GI] using this
theorem ub {o:List Nat} {na nb mg k k1 x g L:Nat} (h:Mg (fun x y=>lt y x) tot o (tkR la na) (tkR lb nb)) (ha:0 < na/\na<=la.length) (hb:1 < nb/\nb<=lb.length) (hx:la[na - 1]?=some x) (q:∀ y∈tkR lb nb,lt y x=true) (hL:L<=o.length+1) :
  wpS M Ar E s (hi4 (arK F la) (arK F lb) (arK F o) na nb mg k k1) (HG F lt κ X pd tot la lb L) (SortSt.mk' κ X pd g none):=by
 unfold hi4;refine aM hx ?_;rw [cF];have h':Mg (fun x y=>lt y x) tot (o++[x]) (tkR la (na - 1)) (tkR lb nb):=by
  rw [e8 ha.1 hx] at h;exact Mg.left (A1:=[x]) h fun w hw y hy=>by rw [Gn] at hw;subst hw;exact q y hy
 have hL':L<=(o++[x]).length:=by rw [Gf];exact hL
 by_cases c:na - 1=0
 ·rw [Gs (by rw [c];rfl)];exact GF (.inl ⟨_,rfl,pU h' (.inl c)⟩)
 ·rw [Gy (by rw [Hl];exact c)];split
  ·exact GF (.inr ⟨rfl,_,_,rfl,rfl,hL',h',by dsimp only;omega,hb⟩)
  ·exact GF ⟨rfl,_,_,rfl,rfl,hL',h',by dsimp only;omega,hb⟩
variable (O:Ord lt N) (nd:tot.Nodup) (bd:∀ x∈tot,x < N) (hc:Cmp M Ar E s F lt N κ)
include O nd bd hc
theorem uw {o:List Nat} {na nb mg k bc y y0 g L:Nat} (hy0:lb[0]?=some y0) (hy0':∀ x∈la,lt y0 x=true) (h:Mg (fun x y=>lt y x) tot o (tkR la na) (tkR lb nb)) (ha:0 < na/\na<=la.length) (hb:1 < nb/\nb<=lb.length) (hy:lb[nb - 1]?=some y) (q:∀ x∈tkR la na,lt x y=true) (hL:L<=o.length+1) :
  wpS M Ar E s (hi3 (arK F la) (arK F lb) (arK F o) na nb mg k bc) (HG F lt κ X pd tot la lb L) (SortSt.mk' κ X pd g none):=by
 unfold hi3;refine aM hy ?_;rw [cF];have h':Mg (fun x y=>lt y x) tot (o++[y]) (tkR la na) (tkR lb (nb - 1)):=by
  rw [e8 (by omega) hy] at h;exact Mg.right (B1:=[y]) h fun w hw v hv=>by rw [Gn] at hw;subst hw;exact q v hv
 have hL':L<=(o++[y]).length:=by rw [Gf];exact hL
 by_cases c:nb - 1=1
 ·rw [Gs (by rw [c];rfl)];exact GF (.inl ⟨_,rfl,tO hy0 hy0' h' c⟩)
 ·rw [Gy (by rw [Hl];exact c)];obtain ⟨x,hx⟩:∃ x,la[na - 1]?=some x:=⟨_,Gd (by omega)⟩;refine aM hx ?_;have ex:=e8 ha.1 hx;have hxm:x∈tkR la na:=by rw [ex];exact Gm ..
  have sb:=(GJ.mp h'.sb).2.1;refine GL (nq (S:=lb.take (nb - 1)) O hc rfl (by rw [List.drop_zero]) (by rw [GX];omega) (by have:=Ic.mpr sb;unfold tkR at this;rwa [List.reverse_reverse] at this) (fun w hw=>bd _ (h'.inB (Ib.mpr hw))) (bd _ (h'.inA hxm)) (by omega) fun S1 S2 eS q1 q2=>?_);dsimp only;have hl:S1.length+S2.length=nb - 1:=by rw [<- Gf,<-eS,GX];omega
  have q2':∀ w∈S2.reverse,lt x w=true:=fun w hw=>by
   have:=q2 w (Ib.mp hw);rw [Gs rfl] at this;exact Mg.les (lt:=fun x y=>lt y x) O.flip nd bd h'.symm (by rw [lh eS];exact GQ _ hw) hxm this
  have h2:Mg (fun x y=>lt y x) tot (o++[y]++S2.reverse) (tkR la na) (tkR lb S1.length):=by
   rw [lh eS] at h';refine h'.right ?_;rw [ex] at h' ⊢;exact h'.symm.low O.flip fun w hw=>q2' w hw
  have q1':∀ w∈tkR lb S1.length,lt w x=true:=fun w hw=>by
   unfold tkR at hw;rw [jf eS,Ib] at hw;exact q1 w hw
  by_cases c2:nb - 1 - S1.length > 0
  ·rw [Gs c2,uU eS,cq];by_cases c3:S1.length=1
   ·rw [Gs (by rw [c3];rfl)];exact GF (.inl ⟨_,rfl,tO hy0 hy0' h2 c3⟩)
   ·rw [Gy (by rw [Hl];exact c3)];by_cases c4:S1.length=0
    ·rw [Gs (by rw [c4];rfl)];exact GF (.inl ⟨_,rfl,pU h2 (.inr c4)⟩)
    ·rw [Gy (by rw [Hl];exact c4)];exact ub h2 ha (by omega) hx q1' (by rw [Gf];omega)
  ·rw [Gy c2];have e0:S1.length=nb - 1:=by omega
   rw [e0] at q1';exact ub h' ha (by omega) hx q1' (by omega)
theorem Ap {o:List Nat} {na nb mg ac bc y0 g L:Nat} (hy0:lb[0]?=some y0) (hy0':∀ x∈la,lt y0 x=true) (h:Mg (fun x y=>lt y x) tot o (tkR la na) (tkR lb nb)) (ha:0 < na/\na<=la.length) (hb:1 < nb/\nb<=lb.length) (hL:L<=o.length+1) :
  wpS M Ar E s (hi2 (arK F la) (arK F lb) (arK F o) na nb mg ac bc) (HG F lt κ X pd tot la lb L) (SortSt.mk' κ X pd g none):=by
 unfold hi2;rw [fQ];refine GL (IK ?_);obtain ⟨y,hy⟩:∃ y,lb[nb - 1]?=some y:=⟨_,Gd (by omega)⟩;refine aM hy ?_;have ey:=e8 (by omega) hy;have hym:y∈tkR lb nb:=by rw [ey];exact Gm ..
 have sa:=(GJ.mp h.sa).2.1;refine GL (nq (S:=la.take na) O hc rfl (by rw [List.drop_zero]) (by rw [GX];omega) (by have:=Ic.mpr sa;unfold tkR at this;rwa [List.reverse_reverse] at this) (fun w hw=>bd _ (h.inA (Ib.mpr hw))) (bd _ (h.inB hym)) (by omega) fun S1 S2 eS q1 q2=>?_);dsimp only;have hl:S1.length+S2.length=na:=by rw [<- Gf,<-eS,GX];omega
 have q1':∀ w∈tkR la S1.length,lt w y=true:=fun w hw=>by
  unfold tkR at hw;rw [jf eS,Ib] at hw;have:=q1 w hw;rw [Gy GV,Iv] at this;exact Mg.les (lt:=fun x y=>lt y x) O.flip nd bd h.symm hym (by rw [Ib,eS];exact GQ _ hw) this
 have q2':∀ w∈S2.reverse,lt y w=true:=fun w hw=>by
  have:=q2 w (Ib.mp hw)
  rwa [Gy GV,Bool.not_eq_false'] at this
 have h2:Mg (fun x y=>lt y x) tot (o++S2.reverse) (tkR la S1.length) (tkR lb nb):=by
  rw [lh eS] at h;refine h.left ?_;rw [ey] at h ⊢;exact h.low O.flip q2'
 by_cases c2:na - S1.length > 0
 ·rw [Gs c2,uU eS,cq];by_cases c3:S1.length=0
  ·rw [Gs (by rw [c3];rfl)];exact GF (.inl ⟨_,rfl,pU h2 (.inl c3)⟩)
  ·rw [Gy (by rw [Hl];exact c3)];exact uw O nd bd hc hy0 hy0' h2 (by omega) hb hy q1' (by rw [Gf];omega)
 ·rw [Gy c2];have e0:S1.length=na:=by omega
  rw [e0] at q1';exact uw O nd bd hc hy0 hy0' h ha hb hy q1' hL
theorem z0 {o:List Nat} {na nb mg ac bc y0 g L:Nat} (hy0:lb[0]?=some y0) (hy0':∀ x∈la,lt y0 x=true) (h:Mg (fun x y=>lt y x) tot o (tkR la na) (tkR lb nb)) (ha:0 < na/\na<=la.length) (hb:1 < nb/\nb<=lb.length) (hL:L<=o.length+1) :
  wpS M Ar E s (hi1 (arK F la) (arK F lb) mg (none,na,nb,arK F o,ac,bc)) (fun r st=>(∃ c,r=.done c/\HD F lt κ X pd tot la lb L c.1 c.2.2.2.1 c.2.1 c.2.2.1 st)\/∃ c,r=.yield c/\c.1=none/\HI F lt κ X pd tot la lb L c.2.2.2.1 c.2.1 c.2.2.1 st) (SortSt.mk' κ X pd g none):=by
 unfold hi1;obtain ⟨y,hy⟩:∃ y,lb[nb - 1]?=some y:=⟨_,Gd (by omega)⟩;obtain ⟨x,hx⟩:∃ x,la[na - 1]?=some x:=⟨_,Gd (by omega)⟩;have ex:=e8 ha.1 hx;have ey:=e8 (by omega) hy;have hxm:x∈tkR la na:=by rw [ex];exact Gm ..
 have hym:y∈tkR lb nb:=by rw [ey];exact Gm ..
 dsimp only;refine aM hy (aM hx (GL (hc _ _ _ _ rfl (bd _ (h.inB hym)) (bd _ (h.inA hxm)) ?_)));dsimp only;cases e:lt y x with
 | true =>
  rw [Gs rfl];refine aM hx ?_;rw [cF];have h':Mg (fun x y=>lt y x) tot (o++[x]) (tkR la (na - 1)) (tkR lb nb):=by
   rw [ex] at h;refine Mg.left (A1:=[x]) h ?_;rw [ey] at h ⊢;exact h.symm.rh O.flip e
  have hL':L<=(o++[x]).length:=by rw [Gf];exact hL
  by_cases c:na - 1=0
  ·rw [Gs (by rw [c];rfl)];exact GF (.inl ⟨_,rfl,.inl ⟨_,rfl,pU h' (.inl c)⟩⟩)
  ·rw [Gy (by rw [Hl];exact c)];split
   ·exact GF (.inl ⟨_,rfl,.inr ⟨rfl,_,_,rfl,rfl,hL',h',by dsimp only;omega,hb⟩⟩)
   ·exact GF (.inr ⟨_,rfl,rfl,_,_,rfl,rfl,hL',h',by dsimp only;omega,hb⟩)
 | false =>
  rw [Gy GV];refine aM hy ?_;rw [cF];have e':=Mg.les (lt:=fun x y=>lt y x) O.flip nd bd h.symm hym hxm e;have h':Mg (fun x y=>lt y x) tot (o++[y]) (tkR la na) (tkR lb (nb - 1)):=by
   rw [ey] at h;refine Mg.right (B1:=[y]) h ?_;rw [ex] at h ⊢;exact h.rh O.flip e'
  have hL':L<=(o++[y]).length:=by rw [Gf];exact hL
  by_cases c:nb - 1=1
  ·rw [Gs (by rw [c];rfl)];exact GF (.inl ⟨_,rfl,.inl ⟨_,rfl,tO hy0 hy0' h' c⟩⟩)
  ·rw [Gy (by rw [Hl];exact c)];split
   ·exact GF (.inl ⟨_,rfl,.inr ⟨rfl,_,_,rfl,rfl,hL',h',ha,by dsimp only;omega⟩⟩)
   ·exact GF (.inr ⟨_,rfl,rfl,_,_,rfl,rfl,hL',h',ha,by dsimp only;omega⟩)
theorem oW {g z y0:Nat} {Q:Array Keyed->SortSt->Prop} (hz:la[la.length - 1]?=some z) (hz':∀ y∈lb,lt y z=true) (hy0:lb[0]?=some y0) (hy0':∀ x∈la,lt y0 x=true) (sa:la.Pairwise fun x y=>lt x y=true) (sb:lb.Pairwise fun x y=>lt x y=true) (et:tot=la++lb)
  (h:∀ r st,FI F lt κ X pd tot r st->Q r st):wpS M Ar E s (i9 (arK F la) (arK F lb)) Q (SortSt.mk' κ X pd g none):=by
 have hal:1<=la.length:=by
  rcases Nat.eq_zero_or_pos la.length with e | e
  ·rw [GZ e] at hz;cases hz
  ·exact e
 have hbl:1<=lb.length:=by
  rcases Nat.eq_zero_or_pos lb.length with e | e
  ·rw [GZ e] at hy0;cases hy0
  ·exact e
 have hl:tot.length=la.length+lb.length:=by rw [et,Gf]
 have h0:Mg (fun x y=>lt y x) tot [z] (tkR la (la.length - 1)) (tkR lb lb.length):=by
  have m0:Mg (fun x y=>lt y x) tot [] (tkR la la.length) (tkR lb lb.length):=by
   unfold tkR;rw [Hy,Hy];exact ⟨Ic.mpr sa,Ic.mpr sb,by rw [et,List.nil_append];exact List.Perm.append (IS _) (IS _)⟩
  rw [e8 hal hz] at m0;refine Mg.left (A1:=[z]) m0 fun w hw x hx=>?_;rw [Gn] at hw;subst hw;unfold tkR at hx;rw [Hy,Ib] at hx;exact hz' x hx
 rw [k5];refine GL (wpS_lift (Iw ⟨rfl,?_⟩));rw [aT,aT];refine aM hz ?_;rw [show (#[F z]:Array Keyed)=arK F [z] from rfl];by_cases c:la.length - 1=0
 ·rw [Gs (by rw [c];rfl)];exact GF (h _ _ (pU h0 (.inl c)))
 rw [Gy (by rw [Hl];exact c)];by_cases c:lb.length=1
 ·rw [Gs (by rw [c];rfl)];exact GF (h _ _ (tO hy0 hy0' h0 c))
 rw [Gy (by rw [Hl];exact c)];refine GL (Ju ?_);refine GL (HX (HB (I:=fun i (c:Option (Array Keyed)×Nat×Nat×Array Keyed×Nat) st=>c.1=none/\HI F lt κ X pd tot la lb (i+1) c.2.2.2.1 c.2.1 c.2.2.1 st) (Q:=fun (c:Option (Array Keyed)×Nat×Nat×Array Keyed×Nat) st=>∃ r,c.1=some r/\FI F lt κ X pd tot r st) ?_ ?_ ⟨rfl,[z],_,rfl,rfl,Gu _,h0,by dsimp only;omega,by dsimp only;omega⟩) ?_)
 ·rintro i ⟨r,na,nb,out,mg⟩ st _ hi ⟨e,o,g,e1,rfl,hL,hM,ha,hb⟩;dsimp only at e e1 hM ha hb ⊢;subst e e1;refine GL (HX (HB (I:=fun j (c:DL) st=>c.1=none/\HI F lt κ X pd tot la lb (i+1+min j 1) c.2.2.2.1 c.2.1 c.2.2.1 st) (Q:=fun (c:DL) st=>HD F lt κ X pd tot la lb (i+2) c.1 c.2.2.2.1 c.2.1 c.2.2.1 st) ?_ ?_ ⟨rfl,o,_,rfl,rfl,hL,hM,ha,hb⟩) ?_)
  ·rintro j ⟨r,na,nb,out,ac,bc⟩ st _ hj ⟨e,o,g,e1,rfl,hL,hM,ha,hb⟩;dsimp only at e e1 hM ha hb hL ⊢;subst e e1;refine HX (z0 O nd bd hc (L:=i+2) hy0 hy0' hM ha hb (by omega)) ?_;rintro r st (⟨c,rfl,q⟩ | ⟨c,rfl,e,o,g,q1,q2,q3,q4⟩)
   ·exact q
   ·exact ⟨e,o,g,q1,q2,by omega,q4⟩
  ·rintro ⟨r,na,nb,out,ac,bc⟩ st ⟨e,o,g,q1,q2,q3,q4⟩;exact .inr ⟨e,o,g,q1,q2,by omega,q4⟩
  ·rintro ⟨r,na,nb,out,ac,bc⟩ st (⟨r,e,q⟩ | ⟨e,o,g,e1,rfl,hL,hM,ha,hb⟩)
   ·dsimp only at e ⊢;subst e;exact GF ⟨r,rfl,q⟩
   dsimp only at e e1 hM ha hb hL ⊢;subst e e1;refine GL (wpS_lift (Iw ⟨rfl,?_⟩));refine GL (HX (HB (I:=fun j (c:DG) st=>c.1=none/\HI F lt κ X pd tot la lb (i+2) c.2.2.2.1 c.2.1 c.2.2.1 st) (Q:=fun (c:DG) st=>HD F lt κ X pd tot la lb (i+2) c.1 c.2.2.2.1 c.2.1 c.2.2.1 st) ?_ ?_ ⟨rfl,o,_,rfl,rfl,hL,hM,ha,hb⟩) ?_)
   ·rintro j ⟨r,na,nb,out,mg,ac,bc⟩ st _ hj ⟨e,o,g,e1,rfl,hL,hM,ha,hb⟩;dsimp only at e e1 hM ha hb hL ⊢;subst e e1;split
    all_goals
     refine HX (Ap O nd bd hc (L:=i+2) hy0 hy0' hM ha hb (by omega)) ?_;rintro (c | c) st q
     ·exact q
     ·exact q
   ·rintro ⟨r,na,nb,out,mg,ac,bc⟩ st ⟨e,q⟩;exact .inr ⟨e,q⟩
   ·rintro ⟨r,na,nb,out,mg,ac,bc⟩ st (⟨r,e,q⟩ | ⟨e,o,g,e1,rfl,hL,hM,ha,hb⟩)
    ·dsimp only at e ⊢;subst e;exact GF ⟨r,rfl,q⟩
    dsimp only at e e1 hM ha hb hL ⊢;subst e e1;rw [fQ];exact GL (IK (GF ⟨rfl,o,_,rfl,rfl,hL,hM,ha,hb⟩))
 ·rintro ⟨r,na,nb,out,mg⟩ st ⟨e,o,g,e1,rfl,hL,hM,ha,hb⟩;exfalso;have:=hM.len;dsimp only at this ha hb;rw [pK ha.2,pK hb.2] at this;omega
 ·rintro ⟨r,na,nb,out,mg⟩ st ⟨r,e,q⟩;dsimp only at e ⊢;subst e;exact GF (h _ _ q)
end
open PySem PySem.Spec PyProof.Rows PySem.W
noncomputable def putAll (n:Nat) (a:Array Keyed) (m:List (Keyed×Nat)):Array Keyed:=m.foldl (fun a p=>a.setIfInBounds (n+p.2) p.1) a
theorem jG {n:Nat}:∀ (m U P T:List Keyed) (k:Nat) (a:Array Keyed),a.toList=P++U++T->P.length=n+k->U.length=m.length->(putAll n a (m.zipIdx k)).toList=P++m++T
 | [],[],P,T,k,a,h,_,_=>h
 | p :: m,u :: U,P,T,k,a,h,e,el=>by
  rw [List.zipIdx_cons];show (putAll n (a.setIfInBounds (n+k) p) (m.zipIdx (k+1))).toList=_;rw [jG m U (P++[p]) T (k+1) _ (by rw [Array.toList_setIfInBounds,h,<-e];simp) (by rw [Gf,e];rfl) (by simpa using el)];simp
 | [],u :: U,P,T,k,a,h,_,el=>by cases el
 | p :: m,[],P,T,k,a,h,_,el=>by cases el
theorem o7 {F:Nat->Keyed} {P U T o:List Nat} (h:U.length=o.length):putAll P.length (arK F (P++U++T)) (arK F o).toList.zipIdx=arK F (P++o++T):=by
 apply II.mp;rw [jG (arK F o).toList (U.map F) (P.map F) (T.map F) 0 _ (by simp [arK]) (by simp) (by simp [arK,h])];simp [arK]
section
variable {M:Model} {E:Value->Shared->Prop} {Ar:Around} {s:Shared} {F:Nat->Keyed} {lt:Nat->Nat->Bool} {N:Nat} {κ:SortKind} {pd:Array (Nat×Nat×Nat)}
theorem wR {σ:Type} {st st':σ} {Q:PUnit->σ->Prop} (h:Q ⟨⟩ st'):wpS M Ar E s (set st':StateT σ Sem PUnit) Q st:=by
 unfold wpS;rw [StateT.run_set];exact Gi ⟨rfl,h⟩
theorem pw_last {l:List Nat} {z:Nat} (hp:l.Pairwise fun x y=>lt x y=true) (hz:l[l.length - 1]?=some z) {x:Nat} (hx:x∈l):x=z\/lt x z=true:=by
 obtain ⟨i,hi,e⟩:=List.mem_iff_getElem.mp hx;obtain ⟨h1,e1⟩:=Gh.mp hz;by_cases c:i=l.length - 1
 ·subst c;exact .inl (e.symm.trans e1)
 ·exact .inr (by have:=HE.mp hp i (l.length - 1) hi h1 (by omega);rwa [e,e1] at this)
theorem qg {pre X Y post:List Nat} {i g pw pw2:Nat} {Q:Bool->SortSt->Prop} (O:Ord lt N) (nd:(X++Y).Nodup) (bd:∀ x∈X++Y,x < N) (hc:Cmp M Ar E s F lt N κ)
  (h1:pd[i]?=some (pre.length,X.length,pw)) (h2:pd[i+1]?=some (pre.length+X.length,Y.length,pw2)) (hX:X≠[]) (hY:Y≠[]) (sX:X.Pairwise fun x y=>lt x y=true) (sY:Y.Pairwise fun x y=>lt x y=true)
  (h:∀ Z g,Z.Pairwise (fun x y=>lt x y=true)->Z.Perm (X++Y)->Q true (SortSt.mk' κ (arK F (pre++Z++post)) ((pd.setIfInBounds i (pre.length,X.length+Y.length,pw)).eraseIdxIfInBounds (i+1)) g none)) :
  wpS M Ar E s (mergeAt' i) Q (SortSt.mk' κ (arK F (pre++(X++Y)++post)) pd g none):=by
 obtain ⟨y0,Y',rfl⟩:∃ y0 Y',Y=y0 :: Y':=by cases Y with | nil=>exact absurd rfl hY | cons a b=>exact ⟨a,b,rfl⟩
 have hXl:0 < X.length:=List.length_pos_iff.mpr hX;have dis:∀ x∈X,∀ y∈y0 :: Y',x≠y:=fun x hx y hy=>(Hs.mp nd).2.2 x hx y hy;have bX:∀ x∈X,x < N:=fun x hx=>bd x (GQ _ hx);have bY:∀ x∈y0 :: Y',x < N:=fun x hx=>bd x (Gr _ hx);have hy0:∀ y∈y0 :: Y',y0=y\/lt y0 y=true:=fun y hy=>by
  rcases Gv.mp hy with rfl | hy
  ·exact .inl rfl
  ·exact .inr ((Ht.mp sY).1 _ hy)
 have up:∀ {x y:Nat},lt x y0=true->y∈y0 :: Y'->lt x y=true:=fun e hy=>by
  rcases hy0 _ hy with rfl | z
  ·exact e
  ·exact O.tr _ _ _ e z
 unfold mergeAt';refine GL (Ju ?_);dsimp only [SortSt.mk'];rw [h1,h2];dsimp only;refine GL (wR ?_);refine aM (x:=y0) (by rw [GI,Gj (by omega),GI,Gj (by omega)];simp) ?_;refine GL (nq (S:=X) O hc rfl (by simp) rfl sX bX (bY _ (Gm ..)) hXl fun X1 X2 eX q1 q2=>?_);dsimp only;have q1':∀ x∈X1,lt x y0=true:=fun x hx=>by
  have:=q1 x hx;rw [Gy GV,Iv] at this;have hx':x∈X:=by rw [eX];exact GQ _ hx
  exact O.tot _ _ (bY _ (Gm ..)) (bX _ hx') (Ne.symm (dis _ hx' _ (Gm ..))) this
 have q2':∀ x∈X2,lt y0 x=true:=fun x hx=>by
  have:=q2 x hx
  rwa [Gy GV,Bool.not_eq_false'] at this
 have hl:X.length=X1.length+X2.length:=by rw [eX,Gf]
 rw [show X.length - X1.length=X2.length by omega];by_cases c:X2.length=0
 ·rw [Gs (by rw [c];rfl)];have e0:=GZ c;subst e0;rw [Hx] at eX;subst eX;exact GF (h _ _ (GJ.mpr ⟨sX,sY,fun x hx y hy=>up (q1' x hx) hy⟩) (HJ _))
 rw [Gy (by rw [Hl];exact c)];obtain ⟨z,hz⟩:∃ z,X2[X2.length - 1]?=some z:=⟨_,Gd (by omega)⟩;have hzm:z∈X2:=Gx hz;have hzX:z∈X:=by rw [eX];exact Gr _ hzm
 have sX2:X2.Pairwise fun x y=>lt x y=true:=by rw [eX] at sX;exact (GJ.mp sX).2.1
 refine aM (x:=z) (by rw [eX,show pre.length+X1.length+X2.length - 1=pre.length+(X1.length+(X2.length - 1)) by omega,GI,Gj (by omega),Ik,GI,GI,Gj (by omega),Ik,Gz (by omega)];exact hz) ?_;refine GL (nq (S:=y0 :: Y') O hc rfl (by rw [<- GI,<-Gf,GI,Jj,List.take_left]) rfl sY bY (bX _ hzX) (by simp) fun Y1 Y2 eY r1 r2=>?_);dsimp only;have r2':∀ y∈Y2,lt z y=true:=fun y hy=>by
  have:=r2 y hy;rw [Gs rfl] at this;have hy':y∈y0 :: Y':=by rw [eY];exact Gr _ hy
  exact O.tot _ _ (bY _ hy') (bX _ hzX) (Ne.symm (dis _ hzX _ hy')) this
 have zup:∀ x∈X2,∀ y∈Y2,lt x y=true:=fun x hx y hy=>by
  rcases pw_last sX2 hz hx with rfl | e
  ·exact r2' y hy
  ·exact O.tr _ _ _ e (r2' y hy)
 by_cases c1:Y1.length=0
 ·exfalso;have e0:=GZ c1;subst e0;rw [List.nil_append] at eY;have a1:=r2' y0 (by rw [<- eY];exact Gm ..);have a2:=O.tr _ _ _ a1 (q2' z hzm);rw [O.irr] at a2;exact absurd a2 (by decide)
 rw [Gy (by rw [Hl];exact c1)];obtain ⟨B,eB⟩:∃ B,Y1=y0 :: B:=by
  cases Y1 with
  | nil=>exact absurd rfl c1
  | cons a b=>exact ⟨b,by rw [List.cons_append] at eY;rw [(List.cons.inj eY).1]⟩
 have ex:(arK F (pre++(X++y0 :: Y')++post)).extract (pre.length+X1.length) (pre.length+X.length)=arK F X2:=by
  rw [mL,eX,show pre.length+(X1++X2).length - (pre.length+X1.length)=X2.length by rw [Gf];omega];congr 1;rw [<- Gf,show pre++(X1++X2++y0 :: Y')++post=(pre++X1)++(X2++(y0 :: Y'++post)) by simp,Jj,List.take_left]
 have ey:(arK F (pre++(X++y0 :: Y')++post)).extract (pre.length+X.length) (pre.length+X.length+Y1.length)=arK F Y1:=by
  rw [mL,Ik,eY];congr 1;rw [<- Gf,show pre++(X++(Y1++Y2))++post=(pre++X)++(Y1++(Y2++post)) by simp,Jj,List.take_left]
 rw [ex,ey];have sY1:=sY;rw [eY] at sY1;have hz':∀ y∈Y1,lt y z=true:=fun y hy=>by have:=r1 y hy;rwa [Gs rfl] at this
 have nd2:(X2++Y1).Nodup:=by
  rw [eX,eY,GI] at nd;have n2:=(Hs.mp nd).2.1;rw [<- GI] at n2;exact (Hs.mp n2).1
 have bd2:∀ x∈X2++Y1,x < N:=fun x hx=>by
  rcases GS.mp hx with hx | hx
  ·exact bX x (by rw [eX];exact Gr _ hx)
  ·exact bY x (by rw [eY];exact GQ _ hx)
 have fin:∀ (r:Array Keyed) (st:SortSt),FI F lt κ (arK F (pre++(X++y0 :: Y')++post)) ((pd.setIfInBounds i (pre.length,X.length+(y0 :: Y').length,pw)).eraseIdxIfInBounds (i+1)) (X2++Y1) r st ->
   wpS M Ar E s (do
    modify fun s=>setArr s (putAll (pre.length+X1.length) (arrOf s) r.toList.zipIdx)
    let st<-get
    pure (failedOf st).isNone) Q st:=by
  rintro _ _ ⟨o,g,rfl,rfl,so,po⟩;refine GL (IK (GL (Ju (GF ?_))));show Q true (SortSt.mk' κ (putAll (pre.length+X1.length) (arK F (pre++(X++y0 :: Y')++post)) (arK F o).toList.zipIdx) _ g none);have e1:putAll (pre.length+X1.length) (arK F (pre++(X++y0 :: Y')++post)) (arK F o).toList.zipIdx=arK F (pre++(X1++o++Y2)++post):=by
   rw [<- Gf,eX,eY,show pre++(X1++X2++(Y1++Y2))++post=(pre++X1)++(X2++Y1)++(Y2++post) by simp,o7 po.length_eq.symm];simp
  rw [e1];refine h _ _ ?_ ?_
  ·have sX':=sX;rw [eX] at sX';rw [GI];refine GJ.mpr ⟨(GJ.mp sX').1,GJ.mpr ⟨so,(GJ.mp sY1).2.1,fun x hx y hy=>?_⟩,fun x hx y hy=>?_⟩
   ·rcases GS.mp (po.mem_iff.mp hx) with hx | hx
    ·exact zup x hx y hy
    ·exact (GJ.mp sY1).2.2 x hx y hy
   ·rcases GS.mp hy with hy | hy
    ·rcases GS.mp (po.mem_iff.mp hy) with hy | hy
     ·exact (GJ.mp sX').2.2 x hx y hy
     ·exact up (q1' x hx) (by rw [eY];exact GQ _ hy)
    ·exact up (q1' x hx) (by rw [eY];exact Gr _ hy)
  ·rw [eX,eY,GI,GI];refine Iq _ ?_;rw [<- GI];exact List.Perm.append_right _ po
 split
 ·exact GL (oA O nd2 bd2 hc hz hz' eB q2' sX2 (GJ.mp sY1).1 rfl fin)
 ·exact GL (oW O nd2 bd2 hc hz hz' (y0:=y0) (by rw [eB];rfl) q2' sX2 (GJ.mp sY1).1 rfl fin)
end
open PySem PySem.Spec PyProof.Rows PySem.W
section
variable {F:Nat->Keyed}
theorem dh {l:List Nat} {k:Nat}:(arK F l)[k]?=(l[k]?).map F:=by simp [arK]
theorem qu {pre S T:List Nat}:mirror (arK F (pre++(S++T))) pre.length (pre.length+S.length) ((pre.length+S.length - pre.length) / 2)=arK F (pre++(S.reverse++T)):=by
 apply Array.ext_getElem?;intro k;rw [getElem?_mirror_all (by rw [aT,Gf,Gf];omega),dh,dh,dh];by_cases c1:k < pre.length
 ·rw [Gy (by omega),Gz c1,Gz c1]
 ·rw [Gj (l₁:=pre) (i:=k) (by omega),Gj (l₁:=pre) (i:=k) (by omega)];by_cases c2:k < pre.length+S.length
  ·rw [Gs (by omega),Gj (by omega),Gz (by omega),Gz (by rw [Je];omega),List.getElem?_reverse (by omega)];congr 2;omega
  ·rw [Gy (by omega),Gj (l₁:=S) (by omega),Gj (l₁:=S.reverse) (by rw [Je];omega),Je]
theorem nE {pre S1 S2 T:List Nat} {x:Nat}:bubble (arK F (pre++(S1++S2++x :: T))) (pre.length+(S1++S2).length) (pre.length+(S1++S2).length - (pre.length+S1.length))=arK F (pre++(S1++x :: S2++T)):=by
 apply Array.ext_getElem?;intro k;have hs:pre.length+(S1++S2).length < (arK F (pre++(S1++S2++x :: T))).size:=by rw [aT];simp only [Gf,GH];omega
 rw [getElem?_bubble hs _ (by omega),dh,dh,dh,dh,show pre++(S1++S2++x :: T)=(pre++S1)++(S2++x :: T) by simp,show pre++(S1++x :: S2++T)=(pre++S1)++(x :: (S2++T)) by simp];rw [Gf];have hl:(pre++S1).length=pre.length+S1.length:=Gf;have e0:pre.length+(S1.length+S2.length) - (pre.length+(S1.length+S2.length) - (pre.length+S1.length))=pre.length+S1.length:=by omega
 rw [e0];by_cases c1:k=pre.length+S1.length
 ·subst c1;rw [Gs rfl,Gj (by omega),Gj (l₁:=pre++S1) (by omega),hl,show pre.length+(S1.length+S2.length) - (pre.length+S1.length)=S2.length by omega,Gj (by omega),IP,IP];rfl
 ·rw [Gy c1];by_cases c2:k < pre.length+S1.length
  ·rw [Gy (by omega),Gz (l₁:=pre++S1) (by omega),Gz (l₁:=pre++S1) (by omega)]
  ·by_cases c3:k<=pre.length+(S1.length+S2.length)
   ·rw [Gs (by omega),Gj (by omega),Gj (l₁:=pre++S1) (i:=k) (by omega),hl,Gz (by omega),show k - (pre.length+S1.length)=(k - 1 - (pre.length+S1.length))+1 by omega,List.getElem?_cons_succ,Gz (by omega)]
   ·rw [Gy (by omega),Gj (by omega),Gj (l₁:=pre++S1) (i:=k) (by omega),hl,Gj (l₁:=S2) (by omega),show k - (pre.length+S1.length)=(k - (pre.length+S1.length) - 1)+1 by omega,List.getElem?_cons_succ,Gj (l₁:=S2) (by omega),show k - (pre.length+S1.length) - 1+1 - S2.length=(k - (pre.length+S1.length) - 1 - S2.length)+1 by omega,List.getElem?_cons_succ]
end
noncomputable def E6 (lo:Nat) (c:Option (Option Nat)×Nat):StateT SortSt Sem (ForInStep (Option (Option Nat)×Nat)):=do
 let some smaller<-ltAt' (lo+c.2) (lo+c.2 - 1) | return .done (some none,c.2)
 if smaller then return .done (none,c.2)
 return .yield (none,c.2+1)
section
variable {M:Model} {E:Value->Shared->Prop} {Ar:Around} {s:Shared} {F:Nat->Keyed} {lt:Nat->Nat->Bool} {N:Nat} {κ:SortKind} {pd:Array (Nat×Nat×Nat)} {g:Nat}
theorem jF {l:List Nat} {i j x y:Nat} {Q:Option Bool->SortSt->Prop} (hc:Cmp M Ar E s F lt N κ) (bd:∀ x∈l,x < N) (hi:l[i]?=some x) (hj:l[j]?=some y) (q:Q (some (lt x y)) (SortSt.mk' κ (arK F l) pd g none)):wpS M Ar E s (ltAt' i j) Q (SortSt.mk' κ (arK F l) pd g none):=by
 rw [ltAt'_eq];refine GL (Ju ?_);exact aM hi (aM hj (hc _ _ _ _ rfl (bd _ (Gx hi)) (bd _ (Gx hj)) q))
theorem fh {pre S T:List Nat} {k x:Nat} (h:(S++T)[k]?=some x):(pre++(S++T))[pre.length+k]?=some x:=by rw [Gj (by omega),Ik,h]
theorem oO {S:List Nat} (h:0 < S.length):∃ z,S[S.length - 1]?=some z:=⟨_,Gd (by omega)⟩
theorem pw_snoc {S:List Nat} {x y:Nat} (O:Ord lt N) (hp:S.Pairwise fun x y=>lt x y=true) (hz:S[S.length - 1]?=some x) (e:lt x y=true):(S++[y]).Pairwise fun x y=>lt x y=true:=by
 refine GJ.mpr ⟨hp,List.pairwise_singleton _ _,fun a ha b hb=>?_⟩;rw [Gn] at hb;subst hb;rcases pw_last hp hz ha with rfl | z
 ·exact e
 ·exact O.tr _ _ _ z e
theorem y4 {pre S T:List Nat} {n nrem:Nat} {Q:Option (Option Nat)×Nat->SortSt->Prop} (O:Ord lt N) (hc:Cmp M Ar E s F lt N κ) (bd:∀ x∈pre++(S++T),x < N) (nd:(S++T).Nodup) (hn:S.length=n) (h1:1<=n) (hr:(S++T).length=nrem) (sS:S.Pairwise fun x y=>lt x y=true)
  (h:∀ S' T',S'++T'=S++T->S'.Pairwise (fun x y=>lt x y=true)->n<=S'.length->(∀ x y T'',T'=y :: T''->S'[S'.length - 1]?=some x->lt y x=true)->Q (none,S'.length) (SortSt.mk' κ (arK F (pre++(S++T))) pd g none)) :
  wpS M Ar E s (forIn [n:nrem] ((none,n):Option (Option Nat)×Nat) fun _ c=>E6 pre.length c) Q (SortSt.mk' κ (arK F (pre++(S++T))) pd g none):=by
 refine HB (I:=fun i (c:Option (Option Nat)×Nat) st=>c=(none,i)/\st=SortSt.mk' κ (arK F (pre++(S++T))) pd g none/\∃ S' T',S'++T'=S++T/\S'.Pairwise (fun x y=>lt x y=true)/\S'.length=i) ?_ ?_ ⟨rfl,rfl,S,T,rfl,sS,hn⟩
 ·rintro i _ _ hi1 hi2 ⟨rfl,rfl,S',T',e,sS',el⟩;unfold E6;dsimp only;obtain ⟨x,hx⟩:=oO (S:=S') (by omega);have hl:S'.length+T'.length=nrem:=by rw [<- Gf,e,hr]
  obtain ⟨y,T'',rfl⟩:∃ y T'',T'=y :: T'':=by cases T' with | nil=>rw [Ig] at hl;omega | cons a b=>exact ⟨a,b,rfl⟩
  rw [<- e] at bd h nd ⊢;refine GL (jF hc bd (x:=y) (y:=x) (fh (by rw [<- el,Gj (Gu _),IP];rfl)) (by rw [Nat.add_sub_assoc (by omega)];exact fh (by rw [<- el,Gz (by omega)];exact hx)) ?_);dsimp only;cases c:lt y x with
  | true =>
   rw [Gs rfl];have:=h S' (y :: T'') rfl sS' (by omega) (fun x' y' T3 e1 e2=>by rw [hx] at e2;injection e1 with e1 _;injection e2 with e2;subst e1 e2;exact c);rw [el] at this;exact GF this
  | false =>
   rw [Gy GV];have hne:x≠y:=(Hs.mp nd).2.2 x (Gx hx) y (Gm ..);have hxy:lt x y=true:=O.tot y x (bd _ (Gr _ (Gr _ (Gm ..)))) (bd _ (Gr _ (GQ _ (Gx hx)))) (Ne.symm hne) c;exact GF ⟨rfl,rfl,S'++[y],T'',by simp,pw_snoc O sS' hx hxy,by rw [Gf,el];rfl⟩
 ·rintro _ _ ⟨rfl,rfl,S',T',e,sS',el⟩;have hl:S'.length+T'.length=nrem:=by rw [<- Gf,e,hr]
  have hS:n<=nrem:=by rw [<- hr,<-hn,Gf];omega
  have e0:T'=[]:=GZ (by omega);subst e0;rw [<- el];exact h S' [] e sS' (by omega) (fun _ _ _ e1=>by cases e1)
theorem w_count {pre R:List Nat} {nrem:Nat} {Q:Option Nat->SortSt->Prop} (O:Ord lt N) (hc:Cmp M Ar E s F lt N κ) (bd:∀ x∈pre++R,x < N) (nd:R.Nodup) (hr:R.length=nrem) (h1:1<=nrem)
  (h:∀ S T,(S++T).Perm R->S.Pairwise (fun x y=>lt x y=true)->1<=S.length->Q (some S.length) (SortSt.mk' κ (arK F (pre++(S++T))) pd g none)) :
  wpS M Ar E s (countRun' pre.length nrem) Q (SortSt.mk' κ (arK F (pre++R)) pd g none):=by
 obtain ⟨a,R',rfl⟩:∃ a R',R=a :: R':=by cases R with | nil=>rw [Ig] at hr;omega | cons a b=>exact ⟨a,b,rfl⟩
 rw [countRun'_eq];dsimp only;refine GL (y4 (S:=[a]) (T:=R') O hc bd nd rfl (Gu _) hr (List.pairwise_singleton _ _) fun S T e sS hS hst=>?_);dsimp only;by_cases c:S.length=nrem
 ·rw [Gs (by rw [c];exact HM _),<-e];exact GF (h S T (by rw [e];exact HJ _) sS hS)
 rw [Gy (by rw [Hl];exact c)];by_cases c2:S.length > 1
 ·rw [Gs c2];obtain ⟨z,hz⟩:=oO (S:=S) (by omega);have hSa:S[0]?=some a:=by
   cases S with
   | nil=>exact absurd hS (by decide)
   | cons b S=>rw [List.cons_append,List.singleton_append] at e;rw [(List.cons.inj e).1];rfl
  have hlt:lt a z=true:=by
   obtain ⟨u1,u2⟩:=Gh.mp hSa;obtain ⟨u3,u4⟩:=Gh.mp hz;have:=HE.mp sS 0 (S.length - 1) u1 u3 (by omega)
   rwa [u2,u4] at this
  rw [<- e];refine GL (jF hc (by rw [e];exact bd) (x:=a) (y:=z) (by rw [<- Nat.add_zero pre.length];exact fh (by rw [Gz (by omega)];exact hSa)) (by rw [Nat.add_sub_assoc (by omega)];exact fh (by rw [Gz (by omega)];exact hz)) ?_);dsimp only;rw [hlt,Gs rfl];exact GF (h S T (by rw [e];exact HJ _) sS hS)
 rw [Gy c2];refine GL (wpS_lift (Iw ⟨rfl,?_⟩));have hS1:S.length=1:=by omega
 obtain ⟨rfl,rfl⟩:S=[a]/\T=R':=List.append_inj e hS1;rw [JD];obtain ⟨b,R2,rfl⟩:∃ b R2,T=b :: R2:=by cases T with | nil=>exact absurd hr c | cons a b=>exact ⟨a,b,rfl⟩
 have hba:=hst a b R2 rfl rfl
 refine GL (HX (HB (I:=fun i (c:Option (Option Nat)×Nat×Nat) st=>c=(none,i,0)/\st=SortSt.mk' κ (arK F (pre++([a]++b :: R2))) pd g none/\∃ S' T',S'++T'=[a]++b :: R2/\S'.Pairwise (fun x y=>lt y x=true)/\S'.length=i/\2<=i)
  (Q:=fun (c:Option (Option Nat)×Nat×Nat) st=>∃ n,c=(none,n,0)/\st=SortSt.mk' κ (arK F (pre++([a]++b :: R2))) pd g none/\∃ S' T',S'++T'=[a]++b :: R2/\S'.Pairwise (fun x y=>lt y x=true)/\S'.length=n/\2<=n)
  ?_ (fun c st z=>⟨_,z⟩) ⟨rfl,rfl,[a,b],R2,rfl,by simpa using hba,rfl,Gu _⟩) ?_)
 ·rintro i _ _ hi1 hi2 ⟨rfl,rfl,S',T',e,sS',el,h2⟩;dsimp only;obtain ⟨x,hx⟩:=oO (S:=S') (by omega);have hl:S'.length+T'.length=nrem:=by rw [<- Gf,e,<-hr];rfl
  obtain ⟨y,T'',rfl⟩:∃ y T'',T'=y :: T'':=by cases T' with | nil=>rw [Ig] at hl;omega | cons a b=>exact ⟨a,b,rfl⟩
  have bd':∀ x∈pre++(S'++y :: T''),x < N:=by rw [e];exact bd
  have nd':(S'++y :: T'').Nodup:=by rw [e];exact nd
  have gy:(pre++(S'++y :: T''))[pre.length+i]?=some y:=fh (by rw [<- el,Gj (Gu _),IP];rfl);have gx:(pre++(S'++y :: T''))[pre.length+i - 1]?=some x:=by rw [Nat.add_sub_assoc (by omega)];exact fh (by rw [<- el,Gz (by omega)];exact hx)
  rw [<- e];refine GL (jF hc bd' gy gx ?_);dsimp only;cases c:lt y x with
  | true =>
   rw [Gs rfl,Gy (by decide)];exact GF ⟨rfl,rfl,S'++[y],T'',by simp,pw_snoc (lt:=fun x y=>lt y x) O.flip sS' hx c,by rw [Gf,el];rfl,by omega⟩
  | false =>
   rw [Gy GV];have hne:x≠y:=(Hs.mp nd').2.2 x (Gx hx) y (Gm ..);have hxy:lt x y=true:=O.tot y x (bd' _ (Gr _ (Gr _ (Gm ..)))) (bd' _ (Gr _ (GQ _ (Gx hx)))) (Ne.symm hne) c;refine GL (jF hc bd' gx gy ?_);dsimp only;rw [hxy,Gs rfl];exact GF ⟨i,rfl,rfl,S',_,rfl,sS',el,h2⟩
 ·rintro _ _ ⟨n,rfl,rfl,S',T',e,sS',el,h2⟩;dsimp only;rw [Gy (by decide),reverseSlice'_eq,<-e];refine GL (IK ?_);have em:mirror (arK F (pre++(S'++T'))) pre.length (pre.length+n) ((pre.length+n - pre.length) / 2)=arK F (pre++(S'.reverse++T')):=by rw [<- el];exact qu
  show wpS M Ar E s _ Q (SortSt.mk' κ (mirror (arK F (pre++(S'++T'))) pre.length (pre.length+n) ((pre.length+n - pre.length) / 2)) pd g none);rw [em];have pr:(S'.reverse++T').Perm ([a]++b :: R2):=by rw [<- e];exact List.Perm.append_right _ (IS _)
  refine GL (y4 (S:=S'.reverse) (T:=T') O hc (fun x hx=>?_) (pr.nodup_iff.mpr nd) (by rw [Je];exact el) (by omega) (by rw [pr.length_eq];exact hr) (Ic.mpr sS') fun S3 T3 e3 s3 l3 _=>?_)
  ·rcases GS.mp hx with hx | hx
   ·exact bd x (GQ _ hx)
   ·exact bd x (Gr _ (pr.mem_iff.mp hx))
  ·dsimp only;rw [<- e3] at pr ⊢;exact GF (h S3 T3 pr s3 (by omega))
noncomputable def plB (lo k:Nat) (c:Option Bool×Nat×Nat):StateT SortSt Sem (ForInStep (Option Bool×Nat×Nat)) :=
 if c.2.1>=c.2.2 then pure (.done (none,c.2.1,c.2.2)) else do
  let some less<-ltAt' (lo+k) (lo+(c.2.1+c.2.2) / 2) | return .done (some false,c.2.1,c.2.2)
  if less then return .yield (none,c.2.1,(c.2.1+c.2.2) / 2)
  return .yield (none,(c.2.1+c.2.2) / 2+1,c.2.2)
theorem wb {pre S T:List Nat} {k y:Nat} {Q:Option Bool×Nat×Nat->SortSt->Prop} (O:Ord lt N) (hc:Cmp M Ar E s F lt N κ) (bd:∀ x∈pre++(S++y :: T),x < N) (nd:(S++y :: T).Nodup) (hk:S.length=k) (sS:S.Pairwise fun x y=>lt x y=true)
  (h:∀ S1 S2,S=S1++S2->(∀ x∈S1,lt x y=true)->(∀ x∈S2,lt y x=true)->∀ r,Q (none,S1.length,r) (SortSt.mk' κ (arK F (pre++(S++y :: T))) pd g none)) :
  wpS M Ar E s (forIn [0:k] ((none,0,k):Option Bool×Nat×Nat) fun _ c=>plB pre.length k c) Q (SortSt.mk' κ (arK F (pre++(S++y :: T))) pd g none):=by
 have fin:∀ l,l<=k->(∀ i,i < l->∀ x,S[i]?=some x->lt y x=false)->(∀ i,l<=i->i < k->∀ x,S[i]?=some x->lt y x=true)->∀ r,Q (none,l,r) (SortSt.mk' κ (arK F (pre++(S++y :: T))) pd g none):=fun l hl a1 a2 r=>by
  obtain ⟨S1,S2,e,el,b1,b2⟩:=l9 (S:=S) (P:=fun x=>!lt y x) (k:=l) (by omega) (fun i hi x e=>by rw [a1 i hi x e];rfl) (fun i hi hi' x e=>by rw [a2 i hi (by omega) x e];rfl);rw [<- el];refine h S1 S2 e (fun x hx=>?_) (fun x hx=>?_) r
  ·have b:=b1 x hx;rw [Iv] at b;have hx':x∈S:=by rw [e];exact GQ _ hx
   exact O.tot _ _ (bd _ (Gr _ (Gr _ (Gm ..)))) (bd _ (Gr _ (GQ _ hx'))) (Ne.symm ((Hs.mp nd).2.2 x hx' y (Gm ..))) b
  ·have b:=b2 x hx
   rwa [Bool.not_eq_false'] at b
 have mono:∀ i j x x',i < j->S[i]?=some x->S[j]?=some x'->lt x x'=true:=fun i j x x' hij e1 e2=>by
  obtain ⟨u1,u2⟩:=Gh.mp e1;obtain ⟨u3,u4⟩:=Gh.mp e2;have:=HE.mp sS i j u1 u3 hij
  rwa [u2,u4] at this
 refine HB (I:=fun i (c:Option Bool×Nat×Nat) st=>st=SortSt.mk' κ (arK F (pre++(S++y :: T))) pd g none/\c.1=none/\c.2.1<=c.2.2/\c.2.2<=k/\c.2.2 - c.2.1<=k - i/\(∀ i,i < c.2.1->∀ x,S[i]?=some x->lt y x=false)/\(∀ i,c.2.2<=i->i < k->∀ x,S[i]?=some x->lt y x=true)) ?_ ?_ ⟨rfl,rfl,Hn _,Gu _,Gu _,fun i z=>absurd z (Nat.not_lt_zero _),fun i z z'=>absurd z (by dsimp only;omega)⟩
 ·rintro i ⟨r,lo,hi⟩ _ _ hi' ⟨rfl,e,a1,a2,a3,a4,a5⟩;dsimp only at e a1 a2 a3 a4 a5;subst e;unfold plB;dsimp only;by_cases c:lo>=hi
  ·rw [Gs c];exact GF (fin lo (by omega) a4 (fun i z z'=>a5 i (by omega) z') hi)
  ·rw [Gy c];obtain ⟨x,hx⟩:∃ x,S[(lo+hi) / 2]?=some x:=⟨_,Gd (by omega)⟩;refine GL (jF hc bd (x:=y) (y:=x) (fh (by rw [<- hk,Gj (Gu _),IP];rfl)) (fh (by rw [Gz (by omega)];exact hx)) ?_);dsimp only;cases e:lt y x with
   | true =>
    rw [Gs rfl];refine GF ⟨rfl,rfl,by dsimp only;omega,by dsimp only;omega,by dsimp only;omega,a4,fun i z z' x' hx'=>?_⟩;dsimp only at z;rcases Nat.lt_or_eq_of_le z with z | z
    ·exact O.tr _ _ _ e (mono _ _ _ _ z hx hx')
    ·rw [<- z,hx] at hx';injection hx' with hx';rw [<- hx'];exact e
   | false =>
    rw [Gy GV];refine GF ⟨rfl,rfl,by dsimp only;omega,by dsimp only;omega,by dsimp only;omega,fun i z x' hx'=>?_,a5⟩;dsimp only at z;by_cases z2:i=(lo+hi) / 2
    ·rw [z2,hx] at hx';injection hx' with hx';rw [<- hx'];exact e
    ·cases e2:lt y x' with
     | false=>rfl
     | true=>rw [O.tr _ _ _ e2 (mono _ _ _ _ (by omega) hx' hx)] at e;exact absurd e (by decide)
 ·rintro ⟨r,lo,hi⟩ _ ⟨rfl,e,a1,a2,a3,a4,a5⟩;dsimp only at e a1 a2 a3 a4 a5;subst e;exact fin lo (by omega) a4 (fun i z z'=>a5 i (by omega) z') hi
theorem BX {pre R:List Nat} {n ok:Nat} {S T:List Nat} {Q:Bool->SortSt->Prop} (O:Ord lt N) (hc:Cmp M Ar E s F lt N κ) (bd:∀ x∈pre++(S++T),x < N) (nd:(S++T).Nodup) (hS:S.length=ok) (h1:1<=ok) (hn:ok<=n) (hr:n<=(S++T).length) (sS:S.Pairwise fun x y=>lt x y=true)
  (h:∀ S' T',(S'++T').Perm (S++T)->S'.Pairwise (fun x y=>lt x y=true)->S'.length=n->Q true (SortSt.mk' κ (arK F (pre++(S'++T'))) pd g none)) :
  wpS M Ar E s (binarySort' pre.length n ok) Q (SortSt.mk' κ (arK F (pre++(S++T))) pd g none):=by
 rw [binarySort'_eq,Nat.max_eq_left h1];dsimp only
 refine GL (HX (HB (I:=fun k (c:Option Bool×PUnit) st=>c=(none,⟨⟩)/\∃ S' T',(S'++T').Perm (S++T)/\S'.Pairwise (fun x y=>lt x y=true)/\S'.length=k/\st=SortSt.mk' κ (arK F (pre++(S'++T'))) pd g none)
  (Q:=fun (c:Option Bool×PUnit) st=>c=(none,⟨⟩)/\∃ S' T',(S'++T').Perm (S++T)/\S'.Pairwise (fun x y=>lt x y=true)/\S'.length=n/\st=SortSt.mk' κ (arK F (pre++(S'++T'))) pd g none) ?_ ?_ ⟨rfl,S,T,HJ _,sS,hS,rfl⟩) ?_)
 ·rintro k _ _ hk1 hk2 ⟨rfl,S',T',pm,sS',el,rfl⟩;have hl:S'.length+T'.length=(S++T).length:=by rw [<- Gf,pm.length_eq]
  obtain ⟨y,T'',rfl⟩:∃ y T'',T'=y :: T'':=by cases T' with | nil=>rw [Ig] at hl;omega | cons a b=>exact ⟨a,b,rfl⟩
  refine GL (wb O hc (fun x hx=>?_) (pm.nodup_iff.mpr nd) el sS' fun S1 S2 e q1 q2 r=>?_)
  ·rcases GS.mp hx with hx | hx
   ·exact bd x (GQ _ hx)
   ·exact bd x (Gr _ (pm.mem_iff.mp hx))
  ·dsimp only;rw [moveDown'_eq];refine GL (IK (GF ⟨rfl,S1++y :: S2,T'',?_,?_,?_,?_⟩))
   ·refine List.Perm.trans ?_ pm;rw [e,GI,GI];refine Iq _ ?_;rw [List.cons_append];exact List.perm_middle.symm
   ·rw [e] at sS';have z:=GJ.mp sS';refine GJ.mpr ⟨z.1,Ht.mpr ⟨q2,z.2.1⟩,fun a ha b hb=>?_⟩;rcases Gv.mp hb with rfl | hb
    ·exact q1 a ha
    ·exact z.2.2 a ha b hb
   ·rw [<- el,e];simp only [Gf,GH];omega
   ·have eb:=nE (F:=F) (pre:=pre) (S1:=S1) (S2:=S2) (T:=T'') (x:=y);rw [<- e,el] at eb;show SortSt.mk' κ (bubble (arK F (pre++(S'++y :: T''))) (pre.length+k) (pre.length+k - (pre.length+S1.length))) pd g none=_;rw [eb]
 ·rintro _ _ ⟨rfl,S',T',pm,sS',el,rfl⟩;exact ⟨rfl,S',T',pm,sS',by omega,rfl⟩
 ·rintro _ _ ⟨rfl,S',T',pm,sS',el,rfl⟩;exact GF (h S' T' pm sS' el)
end
open PySem PySem.Spec PyProof.Rows PySem.W
def Mt (lt:Nat->Nat->Bool):List (Nat×Nat×Nat)->Nat->List Nat->Prop
 | [],_,l=>l=[]
 | r :: ps,s,l=>r.1=s/\∃ X l',l=X++l'/\X.length=r.2.1/\X≠[]/\X.Pairwise (fun x y=>lt x y=true)/\Mt lt ps (s+r.2.1) l'
section
variable {lt:Nat->Nat->Bool}
theorem Mt.app:∀ {ps qs:List (Nat×Nat×Nat)} {s:Nat} {l:List Nat},Mt lt (ps++qs) s l->∃ l1 l2,l=l1++l2/\Mt lt ps s l1/\Mt lt qs (s+l1.length) l2
 | [],qs,s,l,h=>⟨[],l,rfl,rfl,h⟩
 | r :: ps,qs,s,l,h=>by
  obtain ⟨e,X,l',rfl,el,hX,sX,h⟩:=h;obtain ⟨l1,l2,rfl,h1,h2⟩:=Mt.app h;exact ⟨X++l1,l2,(GI ..).symm,⟨e,X,l1,rfl,el,hX,sX,h1⟩,by rw [Gf,el,<-Nat.add_assoc];exact h2⟩
theorem Mt.DO:∀ {ps qs:List (Nat×Nat×Nat)} {s:Nat} {l1 l2:List Nat},Mt lt ps s l1->Mt lt qs (s+l1.length) l2->Mt lt (ps++qs) s (l1++l2)
 | [],qs,s,l1,l2,h,h2=>by
  have h:l1=[]:=h;subst h;exact h2
 | r :: ps,qs,s,l1,l2,h,h2=>by
  obtain ⟨e,X,l',rfl,el,hX,sX,h⟩:=h;exact ⟨e,X,l'++l2,GI ..,el,hX,sX,Mt.DO h (by rw [Gf,el,<-Nat.add_assoc] at h2;exact h2)⟩
theorem Mt.len:∀ {ps:List (Nat×Nat×Nat)} {s:Nat} {l:List Nat},Mt lt ps s l->ps.length<=l.length
 | [],s,l,h=>Hn _
 | r :: ps,s,l,h=>by
  obtain ⟨e,X,l',rfl,el,hX,sX,h⟩:=h;have:=List.length_pos_iff.mpr hX;have:=Mt.len h;rw [Gf,GH];omega
theorem Mt.mod {f:Nat×Nat×Nat->Nat×Nat×Nat} (hf:∀ r,(f r).1=r.1/\(f r).2.1=r.2.1):∀ {ps:List (Nat×Nat×Nat)} {i s:Nat} {l:List Nat},Mt lt ps s l->Mt lt (ps.modify i f) s l
 | [],i,s,l,h=>by rw [List.modify_nil];exact h
 | r :: ps,0,s,l,h=>by
  rw [List.modify_zero_cons];unfold Mt at h ⊢;rw [(hf r).1,(hf r).2];exact h
 | r :: ps,i+1,s,l,h=>by
  rw [List.modify_succ_cons];obtain ⟨e,X,l',rfl,el,hX,sX,h⟩:=h;exact ⟨e,X,l',rfl,el,hX,sX,Mt.mod hf h⟩
theorem Mt.F6 {ps:List (Nat×Nat×Nat)} {s:Nat} {l:List Nat} (h:Mt lt ps s l) (e:ps.length<=1):l.Pairwise fun x y=>lt x y=true:=by
 match ps,h,e with
 | [],h,_ =>
  have h:l=[]:=h;subst h;exact List.Pairwise.nil
 | [r],h,_ =>
  obtain ⟨e,X,l',rfl,el,hX,sX,h⟩:=h;have h:l'=[]:=h;subst h;rw [Hx];exact sX
end
section
variable {M:Model} {E:Value->Shared->Prop} {Ar:Around} {s:Shared} {F:Nat->Keyed} {lt:Nat->Nat->Bool} {N:Nat} {κ:SortKind} {l0:List Nat}
def SoI (F:Nat->Keyed) (lt:Nat->Nat->Bool) (κ:SortKind) (l0:List Nat) (k:Nat) (ps:List (Nat×Nat×Nat)) (R:List Nat) (st:SortSt):Prop :=
 ∃ l1 g,st=SortSt.mk' κ (arK F (l1++R)) ps.toArray g none/\Mt lt ps 0 l1/\l1.length=k/\(l1++R).Perm l0
variable (O:Ord lt N) (nd:l0.Nodup) (bd:∀ x∈l0,x < N) (hc:Cmp M Ar E s F lt N κ)
include O nd bd hc
theorem zc {ps:List (Nat×Nat×Nat)} {R:List Nat} {i k:Nat} {st:SortSt} {Q:Bool->SortSt->Prop} (h:SoI F lt κ l0 k ps R st) (hi:i+1 < ps.length) (q:∀ ps' st,ps'.length+1=ps.length->SoI F lt κ l0 k ps' R st->Q true st):wpS M Ar E s (mergeAt' i) Q st:=by
 obtain ⟨l1,g,rfl,hM,hk,pm⟩:=h;obtain ⟨p1,r1,r2,p2,rfl,e1⟩:∃ p1 r1 r2 p2,ps=p1++r1 :: r2 :: p2/\p1.length=i:=by
  refine ⟨ps.take i,ps[i],ps[i+1],ps.drop (i+2),?_,by rw [GX];omega⟩;rw [<- HF (by omega),<-HF (by omega),IW]
 obtain ⟨u,v,rfl,m1,m2⟩:=hM.app;rw [Nat.zero_add] at m2;obtain ⟨a1,X,v1,rfl,xl,hX,sX,a2,Y,v2,rfl,yl,hY,sY,m3⟩:=m2;have ea:arK F (u++(X++(Y++v2))++R)=arK F (u++(X++Y)++(v2++R)):=by simp
 rw [ea];have pm':(u++(X++Y)++(v2++R)).Perm l0:=by simpa using pm
 have ndw:(X++Y).Nodup:=by
  have:=pm'.nodup_iff.mpr nd;rw [GI] at this;exact (Hs.mp (Hs.mp this).2.1).1
 refine qg (pw:=r1.2.2) (pw2:=r2.2.2) O ndw (fun x hx=>bd x (pm'.mem_iff.mp (GQ _ (Gr _ hx)))) hc ?_ ?_ hX hY sX sY fun Z g' sZ pZ=>?_
 ·rw [Ip,<-e1,Gj (Gu _),IP,<-a1,xl];rfl
 ·rw [Ip,<-e1,Gj (by omega),Ik,yl,xl,<-a2];rfl
 ·have hl:Z.length=X.length+Y.length:=by rw [pZ.length_eq,Gf]
  refine q (p1++(u.length,X.length+Y.length,r1.2.2) :: p2) _ ?_ ⟨u++(Z++v2),g',?_,?_,?_,?_⟩
  ·simp only [Gf,GH];omega
  ·have e2:(((p1++r1 :: r2 :: p2).toArray.setIfInBounds i (u.length,X.length+Y.length,r1.2.2)).eraseIdxIfInBounds (i+1))=(p1++(u.length,X.length+Y.length,r1.2.2) :: p2).toArray:=by
    apply II.mp;rw [Array.toList_eraseIdxIfInBounds,Array.toList_setIfInBounds,<-e1];simp [List.eraseIdx_append_of_length_le]
   rw [e2];simp
  ·refine m1.DO ⟨by rw [Nat.zero_add],Z,v2,rfl,hl,fun e=>?_,sZ,?_⟩
   ·rw [e,Ig] at hl;have:=List.length_pos_iff.mpr hX;omega
   ·rw [Nat.zero_add,xl,yl,<-Nat.add_assoc];exact m3
  ·simp only [Gf] at hk ⊢;omega
  ·refine List.Perm.trans ?_ pm';rw [show u++(Z++v2)++R=u++Z++(v2++R) by simp];exact List.Perm.append_right _ (Iq _ pZ)
omit O nd bd hc
noncomputable def sr3 (size lo n:Nat):StateT SortSt Sem (ForInStep (Option Unit×Nat)):=do
 let st<-get
 match (pendingOf st).back? with
 | some (s1,n1,_)=>do
  let c<-forIn [0:size] ((none,()):Option Unit×Unit) fun _ _=>do
   let st<-get
   match (if (pendingOf st).size > 1 then (pendingOf st)[(pendingOf st).size - 2]? else none) with
   | some (_,_,older) =>
    if older<=power' size (2*s1+n1) (2*s1+n1+n1+n) size then pure (.done (none,()))
    else do
     let b<-mergeAt' ((pendingOf st).size - 2)
     if (!b)=true then pure (.done (some (),())) else pure (.yield (none,()))
   | _=>pure (.done (none,()))
  match c.1 with
  | some r=>pure (.done (some r,lo))
  | none=>do
   modify fun s=>setPending s ((pendingOf s).modify ((pendingOf s).size - 1) fun x=>(x.1,x.2.1,power' size (2*s1+n1) (2*s1+n1+n1+n) size))
   modify fun s=>setPending s ((pendingOf s).push (lo,n,0))
   pure (.yield (none,lo+n))
 | _=>do
  modify fun s=>setPending s ((pendingOf s).push (lo,n,0))
  pure (.yield (none,lo+n))
include O nd bd hc
theorem yB {ps:List (Nat×Nat×Nat)} {S T:List Nat} {lo size:Nat} {st:SortSt} {Q:ForInStep (Option Unit×Nat)->SortSt->Prop} (h:SoI F lt κ l0 lo ps (S++T) st) (sS:S.Pairwise fun x y=>lt x y=true) (hS:1<=S.length)
  (q:∀ ps' st,SoI F lt κ l0 (lo+S.length) ps' T st->Q (.yield (none,lo+S.length)) st):wpS M Ar E s (sr3 size lo S.length) Q st:=by
 have push:∀ {ps st},SoI F lt κ l0 lo ps (S++T) st->SoI F lt κ l0 (lo+S.length) (ps++[(lo,S.length,0)]) T (setPending st ((pendingOf st).push (lo,S.length,0))):=by
  rintro ps _ ⟨l1,g,rfl,hM,hk,pm⟩;refine ⟨l1++S,g,?_,hM.DO ⟨by rw [Nat.zero_add,hk],S,[],by rw [Hx],rfl,fun e=>by rw [e] at hS;exact absurd hS (by decide),sS,rfl⟩,by rw [Gf,hk],by rw [GI];exact pm⟩;show SortSt.mk' κ (arK F (l1++(S++T))) (ps.toArray.push _) g none=_;rw [List.push_toArray,GI]
 unfold sr3;refine GL (Ju ?_);cases e:(pendingOf st).back? with
 | none =>
  dsimp only;exact GL (IK (GF (q _ _ (push h))))
 | some r =>
  obtain ⟨s1,n1,p1⟩:=r;dsimp only;refine GL (HX (HB (I:=fun _ (c:Option Unit×Unit) st=>c.1=none/\∃ ps,SoI F lt κ l0 lo ps (S++T) st) (Q:=fun (c:Option Unit×Unit) st=>c.1=none/\∃ ps,SoI F lt κ l0 lo ps (S++T) st) ?_ (fun _ _ z=>z) ⟨rfl,ps,h⟩) ?_)
  ·rintro i ⟨r,⟨⟩⟩ st _ _ ⟨e,ps,h⟩;refine GL (Ju ?_);have ep:(pendingOf st).size=ps.length:=by obtain ⟨l1,g,rfl,hM,hk,pm⟩:=h;exact Gw
   split
   ·split
    ·exact GF ⟨rfl,ps,h⟩
    ·rename_i fst fst_1 older hp hold;have h1:(pendingOf st).size > 1:=by
      by_cases c:(pendingOf st).size > 1
      ·exact c
      ·rw [Gy c] at hp;cases hp
     refine GL (zc O nd bd hc h (by omega) fun ps' st' _ h'=>?_);rw [Gy (by decide)];exact GF ⟨rfl,ps',h'⟩
   ·exact GF ⟨rfl,ps,h⟩
  ·rintro ⟨r,⟨⟩⟩ st ⟨e,ps,h⟩;dsimp only at e ⊢;subst e;refine GL (IK (GL (IK (GF (q _ _ (push (ps:=ps.modify (ps.length - 1) fun x=>(x.1,x.2.1,power' size (2*s1+n1) (2*s1+n1+n1+S.length) size)) ?_))))))
   ·obtain ⟨l1,g,rfl,hM,hk,pm⟩:=h;refine ⟨l1,g,?_,Mt.mod (f:=fun x=>(x.1,x.2.1,power' size (2*s1+n1) (2*s1+n1+n1+S.length) size)) (fun _=>⟨rfl,rfl⟩) hM,hk,pm⟩;show SortSt.mk' κ (arK F (l1++(S++T))) (ps.toArray.modify (ps.toArray.size - 1) _) g none=_;congr 1;rw [Gw,List.modify_toArray]
theorem Ba {p0:List Nat} {g:Nat} {Q:Unit->SortSt->Prop} (h0:p0.Perm l0) (h:∀ l g ps,l.Perm l0->l.Pairwise (fun x y=>lt x y=true)->Q () (SortSt.mk' κ (arK F l) ps g none)) :
  wpS M Ar E s sortRuns' Q (SortSt.mk' κ (arK F p0) #[] g none):=by
 have hl0:=h0.length_eq;rw [sortRuns'_eq];refine GL (Ju ?_);rw [show (arrOf (SortSt.mk' κ (arK F p0) #[] g none)).size=l0.length by rw [<- hl0];exact aT];dsimp only;generalize minRun' l0.length l0.length 0=mr;refine GL (HX (HB (I:=fun i (c:Option Unit×Nat) st=>c.1=none/\i<=c.2/\∃ ps R,SoI F lt κ l0 c.2 ps R st) (Q:=fun (c:Option Unit×Nat) st=>c.1=none/\∃ ps,SoI F lt κ l0 l0.length ps [] st) ?_ ?_ ⟨rfl,Gu _,[],p0,[],g,rfl,rfl,rfl,h0⟩) ?_)
 ·rintro i ⟨r,lo⟩ st _ hi ⟨e,h1,ps,R,h2⟩;dsimp only at e h1 h2 ⊢;subst e;by_cases c:lo>=l0.length
  ·rw [Gs c];refine GF ⟨rfl,ps,?_⟩;obtain ⟨l1,g,rfl,hM,hk,pm⟩:=h2;have:=pm.length_eq;rw [Gf] at this;have e0:R=[]:=GZ (by omega);subst e0;exact ⟨l1,g,rfl,hM,by rw [Ig] at this;omega,pm⟩
  rw [Gy c];obtain ⟨l1,g,rfl,hM,rfl,pm⟩:=h2;have hlen:=pm.length_eq;rw [Gf] at hlen;have nd1:=pm.nodup_iff.mpr nd;refine GL (w_count O hc (fun x hx=>bd x (pm.mem_iff.mp hx)) (Hs.mp nd1).2.1 (by omega) (by omega) fun S T pS sS hS=>?_);dsimp only;have pm2:(l1++(S++T)).Perm l0:=(Iq _ pS).trans pm;have hlen2:=pS.length_eq;rw [Gf] at hlen2;have bc:∀ {α β:Type} {m m':StateT SortSt Sem α} {f f':α->StateT SortSt Sem β},m=m'->f=f'->(m>>=f)=(m'>>=f'):=by rintro _ _ _ _ _ _ rfl rfl;rfl
  have use:∀ {m m':StateT SortSt Sem (ForInStep (Option Unit×Nat))} {Q:ForInStep (Option Unit×Nat)->SortSt->Prop} {st:SortSt},m=m'->wpS M Ar E s m' Q st->wpS M Ar E s m Q st:=by rintro _ _ _ _ rfl z;exact z
  by_cases c2:S.length < mr
  ·rw [Gs c2];refine GL (wpS_lift (Iw ⟨rfl,?_⟩));refine GL (BX (R:=R) O hc (fun x hx=>bd x (pm2.mem_iff.mp hx)) (Hs.mp (pm2.nodup_iff.mpr nd)).2.1 rfl hS (by omega) (by rw [Gf];omega) sS fun S' T' pS' sS' hS'=>?_);rw [Gy (by decide),<-hS'];refine use (m':=sr3 l0.length l1.length S'.length) ?_ (HX (yB O nd bd hc (S:=S') (T:=T') (size:=l0.length) ⟨l1,g,rfl,hM,rfl,(Iq _ pS').trans pm2⟩ sS' (by omega) (Q:=fun r st=>∃ ps' n R,1<=n/\r=.yield (none,l1.length+n)/\SoI F lt κ l0 (l1.length+n) ps' R st) fun ps' st hs=>⟨ps',_,T',by omega,rfl,hs⟩) ?_)
   ·unfold sr3;refine Iz fun st=>?_;cases (pendingOf st).back? with
    | none=>rfl
    | some r =>
     obtain ⟨s1,n1,p1⟩:=r;dsimp only;refine bc ?_ ?_
     ·congr 1;try (funext _ c;refine Iz fun st=>?_;split <;> rfl)
     ·funext c;cases c.1 <;> rfl
   ·rintro _ st ⟨ps',n,R,hn,rfl,hs⟩;exact ⟨rfl,by dsimp only;omega,ps',R,hs⟩
  ·rw [Gy c2];refine use (m':=sr3 l0.length l1.length S.length) ?_ (HX (yB O nd bd hc (S:=S) (T:=T) (size:=l0.length) ⟨l1,g,rfl,hM,rfl,pm2⟩ sS hS (Q:=fun r st=>∃ ps' n R,1<=n/\r=.yield (none,l1.length+n)/\SoI F lt κ l0 (l1.length+n) ps' R st) fun ps' st hs=>⟨ps',_,T,hS,rfl,hs⟩) ?_)
   ·unfold sr3;refine Iz fun st=>?_;cases (pendingOf st).back? with
    | none=>rfl
    | some r =>
     obtain ⟨s1,n1,p1⟩:=r;dsimp only;refine bc ?_ ?_
     ·congr 1;try (funext _ c;refine Iz fun st=>?_;split <;> rfl)
     ·funext c;cases c.1 <;> rfl
   ·rintro _ st ⟨ps',n,R,hn,rfl,hs⟩;exact ⟨rfl,by dsimp only;omega,ps',R,hs⟩
 ·rintro ⟨r,lo⟩ st ⟨e,h1,ps,R,l1,g,rfl,hM,hk,pm⟩;have:=pm.length_eq;rw [Gf] at this;dsimp only at e h1 hk;have e0:R=[]:=GZ (by omega);subst e0;exact ⟨e,ps,l1,g,rfl,hM,by rw [Ig] at this;omega,pm⟩
 ·rintro ⟨r,lo⟩ st ⟨e,ps,hs⟩;dsimp only at e ⊢;subst e;have hps:ps.length<=l0.length:=by obtain ⟨l1,g,rfl,hM,hk,pm⟩:=hs;rw [<- hk];exact hM.len
  refine GL (HX (HB (I:=fun i (c:Option Unit×Unit) st=>c.1=none/\∃ ps,ps.length<=l0.length - i/\SoI F lt κ l0 l0.length ps [] st) (Q:=fun (c:Option Unit×Unit) st=>c.1=none/\∃ ps,ps.length<=1/\SoI F lt κ l0 l0.length ps [] st) ?_ ?_ ⟨rfl,ps,hps,hs⟩) ?_)
  ·rintro i ⟨r,⟨⟩⟩ st _ hi ⟨e,ps,hp,hs⟩;refine GL (Ju ?_);have ep:(pendingOf st).size=ps.length:=by obtain ⟨l1,g,rfl,hM,hk,pm⟩:=hs;exact Gw
   by_cases c:(pendingOf st).size<=1
   ·rw [Gs c];exact GF ⟨rfl,ps,by omega,hs⟩
   ·rw [Gy c];refine GL (zc O nd bd hc hs ?_ fun ps' st' hl h'=>?_)
    ·have:∀ c:Bool,(if c=true then (pendingOf st).size - 2 - 1 else (pendingOf st).size - 2)+1 < ps.length:=fun c=>by cases c <;> simp <;> omega
     exact this _
    ·rw [Gy (by decide)];exact GF ⟨rfl,ps',by omega,h'⟩
  ·rintro ⟨r,⟨⟩⟩ st ⟨e,ps,hp,hs⟩;exact ⟨e,ps,by omega,hs⟩
  ·rintro ⟨r,⟨⟩⟩ st ⟨e,ps,hp,hs⟩;dsimp only at e ⊢;subst e;obtain ⟨l1,g,rfl,hM,hk,pm⟩:=hs;rw [Hx] at pm ⊢;exact GF (h l1 g _ pm (hM.F6 hp))
end
open PySem PySem.Spec PyProof.Rows PySem.W
theorem sP {P:Program} {w:World} {A:Around} {E:Value->Shared->Prop} {s:Shared} {vs ks:List Value} {κ:SortKind} {lt:Nat->Nat->Bool} {Q:SortSt->Shared->Prop} (hl:ks.length=vs.length)
  (hc:∀ i j (C:Bool->Shared->Prop),i < vs.length->j < vs.length->C (lt i j) s->kas_ask P w A κ ks i j C s) (O:Ord lt vs.length)
  (h:∀ p st',p.size=vs.length->arrOf st'=p.map (kas_item (ks.toArray.zip vs.toArray))->failedOf st'=none->Pm vs.length p->Up lt p vs.length->Q st' s) :
  wpAny (model P w) A ((sortRuns').run (SortSt.mk' κ (ks.toArray.zip vs.toArray) #[] 7 none)) (fun r s'=>Q r.2 s') E s:=by
 have e:=kas_range (ks.toArray.zip vs.toArray);rw [show (ks.toArray.zip vs.toArray).size=vs.length by simp [hl]] at e;have est:SortSt.mk' κ (ks.toArray.zip vs.toArray) #[] 7 none=SortSt.mk' κ (arK (kas_item (ks.toArray.zip vs.toArray)) (List.range vs.length)) #[] 7 none:=by
  congr 1;rw [<- e];simp only [arK,e];rw [<- List.map_toArray,e]
 rw [est];have hcm:Cmp (model P w) A E s (kas_item (ks.toArray.zip vs.toArray)) lt vs.length κ:=by
  intro i j C st hk hi hj hC;rw [lt'_eq];refine GL (Ju ?_);rw [hk,kat_item hl,kat_item hl];refine GL (wpS_lift (wpAny_attempt (Hg (hc i j (fun b s'=>b=lt i j/\s'=s) hi hj ⟨rfl,rfl⟩) (fun b s' hb=>?_) fun _ _ z=>z.elim)));obtain ⟨rfl,rfl⟩:=hb;exact ⟨rfl,GF hC⟩
 have:=Ba (M:=model P w) (Ar:=A) (E:=E) (s:=s) (g:=7) (p0:=List.range vs.length) (Q:=fun _ st=>Q st s) O List.nodup_range (fun x hx=>List.mem_range.mp hx) hcm (HJ _) fun l g ps pl sl=>h l.toArray _ (by rw [Gw,pl.length_eq,Hf]) (by simp [arK]) rfl (IE.mpr pl) fun i hi=>?_
 ·exact Hg this (fun r s' z=>by obtain ⟨rfl,z⟩:=z;exact z) fun _ _ z=>z
 ·have hll:l.length=vs.length:=by rw [pl.length_eq,Hf]
  have:=HE.mp sl i (i+1) (by omega) (by omega) (Ia _);unfold at_;rw [Ho,Ho,Ip,Ip,Gd (by omega),Gd (by omega)];exact this
open PySem PySem.Spec PyProof.Rows
def FO (avs:List AV) (e:En) (QI:List PyData->Option Nat->En->Prop):Prop:=∃ x y xs ys,avs=[x,y]/\roL e x=some xs/\roL e y=some ys/\QI ((xs.zip ys).map fun p=>.tuple [p.1,p.2]) none e
theorem FC {gd:List PyData} {as:XA} {env:En} {QI:List PyData->Option Nat->En->Prop} (h:WA gd as env fun avs e=>FO avs e QI):WI gd (.zip as) env QI:=by
 obtain ⟨avs,e',h1,x,y,xs,ys,rfl,h3,h4,h2⟩:=h;exact ⟨_,_,_,by simp only [dI,h1,h3,h4],h2⟩
open PySem PySem.Spec PyProof.Rows PySem.W
structure KS where
 κ:Type
 dft:κ
 dec:DecidableEq κ
 lt:κ->κ->Bool
 irr:∀ x,lt x x=false
 tr:∀ {x y z},lt x y=true->lt y z=true->lt x z=true
 tot:∀ {x y},x≠y->lt x y=false->lt y x=true
 T:Fg->Hp->V->κ->Prop
 same:∀ {K H H' u k},T K H u k->ay H H'->T K H' u k
 Hh:Heap->Value->κ->Prop
 key:∀ {X:Cx} {pins:List (Addr×Obj)} {σ:List (Option V)} {H:Hp} {s:Shared} {v:V} {u:Value} {k:κ},Inv X pins σ H s->RelV v u->T X.K H v k->Hh s.heap u k
 ask:∀ {P:Program} {w:World} {A:Around} {E:Value->Shared->Prop} {s:Shared} {u v:Value} {a b:κ} {C:Bool->Shared->Prop},A.units+64 < cLine->Hh s.heap u a->Hh s.heap v b->C (lt a b) s->wpAny (model P w) A (keyLt' (tuples' true) u v) C E s
 kd:∀ {P:Program} {w:World} {A:Around} {E:Value->Shared->Prop} {s:Shared} {us:List Value} {Q:SortKind->Shared->Prop},(∀ u∈us,∃ k,Hh s.heap u k)->0 < us.length->Q (tuples' true) s->wpAny (model P w) A (keyKind' us.toArray) Q E s
 of:PyData->Option κ
 ofT:∀ {K:Fg} {F:Addr->Prop} {H:Hp} {d:PyData} {u:V} {k:κ},of d=some k->Dm K F H d u->T K H u k
noncomputable def xy (S:KS) (ks:List S.κ) (i j:Nat):Bool:=S.lt (ks.getD i S.dft) (ks.getD j S.dft)
theorem ED (S:KS) {ks:List S.κ} (h:ks.Nodup):Ord (xy S ks) ks.length where
 irr:=fun i=>S.irr _
 tr:=fun i j k=>S.tr
 tot:=fun i j hi hj hn e=>S.tot (fun z=>by
  rw [GP,GP,Gd hi,Gd hj] at z
  exact hn ((List.getElem?_inj hi h).mp (by rw [Gd hi,Gd hj];exact congrArg some z))) e
namespace Sg
noncomputable def vS {S:KS} (x:S.κ×PyData):List (S.κ×PyData)->List (S.κ×PyData)
 | []=>[x]
 | y :: r=>if S.lt x.1 y.1=true then x :: y :: r else y :: vS x r
noncomputable def xx {S:KS}:List (S.κ×PyData)->List (S.κ×PyData)
 | []=>[]
 | x :: r=>vS x (xx r)
theorem gM {S:KS} (x:S.κ×PyData):∀ l,(vS x l).Perm (x :: l)
 | []=>HJ _
 | y :: r=>by
  unfold vS;split
  ·exact HJ _
  ·exact ((gM x r).cons y).trans (List.Perm.swap ..)
theorem bW {S:KS}:∀ l:List (S.κ×PyData),(xx l).Perm l
 | []=>HJ _
 | x :: r=>(gM x _).trans ((bW r).cons x)
theorem nZ {S:KS} (x:S.κ×PyData):∀ l,(∀ y∈l,x.1≠y.1)->l.Pairwise (fun a b=>S.lt a.1 b.1=true)->(vS x l).Pairwise fun a b=>S.lt a.1 b.1=true
 | [],_,_=>by simp [vS]
 | y :: r,hn,h=>by
  obtain ⟨h1,h2⟩:=Ht.mp h;unfold vS;split
  ·rename_i c;refine Ht.mpr ⟨fun b hb=>?_,h⟩;rcases Gv.mp hb with rfl | hb
   ·exact c
   ·exact S.tr c (h1 b hb)
  ·rename_i c;refine Ht.mpr ⟨fun b hb=>?_,nZ x r (fun z hz=>hn z (Gp _ hz)) h2⟩;rcases Gv.mp ((gM x r).mem_iff.mp hb) with rfl | hb
   ·exact S.tot (hn y Gm) (Bool.eq_false_iff.mpr c)
   ·exact h1 b hb
theorem i8 {S:KS}:∀ l:List (S.κ×PyData),(l.map (·.1)).Nodup->(xx l).Pairwise fun a b=>S.lt a.1 b.1=true
 | [],_=>.nil
 | x :: r,h=>by
  obtain ⟨h1,h2⟩:=Hu.mp h;exact nZ x _ (fun y hy z=>h1 (GO.mpr ⟨y,(bW r).mem_iff.mp hy,z.symm⟩)) (i8 r h2)
theorem l8 {S:KS} {ks:List S.κ} {ds:List PyData} {p:Array Nat} (hl:ks.length=ds.length) (hn:ks.Nodup) (hp:Pm ds.length p) (hu:Up (xy S ks) p ds.length):(xx (ks.zip ds)).map (·.2)=p.toList.map fun i=>ds.getD i .none:=by
 have e1:(ks.zip ds).map (·.1)=ks:=by rw [List.map_fst_zip (Nat.le_of_eq hl)]
 have zl:(ks.zip ds).length=ds.length:=by rw [List.length_zip,hl,Nat.min_self]
 have O:Ord (xy S ks) ds.length:=by rw [<- hl];exact ED S hn
 have row:p.toList.map (fun i=>(ks.getD i S.dft,ds.getD i .none))=xx (ks.zip ds):=by
  refine List.Perm.eq_of_pairwise (le:=fun a b=>S.lt a.1 b.1=true) (fun a b _ _ h1 h2=>?_) ?_ (i8 _ (by rw [e1];exact hn)) ?_
  ·have:=S.tr h1 h2;rw [S.irr _] at this;cases this
  ·rw [Ir,HE];intro i j hi hj hij;have:=hu.all O hij (by rw [<- hp.size];simpa using hj);unfold at_ at this;rw [Ho,Ho,He (by simpa using hi),He (by simpa using hj)] at this;exact this
  ·refine (((IE.mp hp).map _).trans ?_).trans (bW _).symm;refine List.Perm.of_eq ?_;apply Jp;intro i;rw [HY,GB];rcases IG i ds.length with z | z
   ·have zk:i < ks.length:=by rw [hl];exact z
    rw [List.getElem?_range z,show (ks.zip ds)[i]?=some (ks[i],ds[i]) from List.getElem?_zip_eq_some.mpr ⟨Gd zk,Gd z⟩];simp [GP,Gd (show i < ks.length by rw [hl];exact z),Gd z]
   ·rw [HS (by rw [Hf];exact z),HS (by rw [zl];exact z)];rfl
 rw [<- row,List.map_map];rfl
end Sg
theorem wY {x y:Str} (h:x.cps.toList=y.cps.toList):x=y:=by
 cases x;cases y;simpa using II.mp h
theorem u9 (x:Str):¬x.cps.toList < x.cps.toList:=List.lt_irrefl _
theorem wD {x y:Str} (hn:¬x=y) (h:¬x.cps.toList < y.cps.toList):y.cps.toList < x.cps.toList :=
 Hq fun n=>hn (wY (List.le_antisymm (List.not_lt.mp n) (List.not_lt.mp h)))
theorem tT {K:Fg} {H H':Hp} {t:Addr} {xs:List V} (h:SqT K H t xs) (e:ay H H'):SqT K H' t xs:=by
 rcases h with (h | ⟨o,h⟩) | h
 ·exact .inl (.inl (e _ _ h))
 ·exact .inl (.inr ⟨o,e _ _ h⟩)
 ·exact .inr h
open PySem PySem.SetTable
noncomputable def rO (m:Nat) (p:Probe):Probe :=
 if p.more > 0 then { p with j:=p.j+1,more:=p.more - 1 } else { p with j:=(leap m p.i p.perturb).1,more:=runEnd m (leap m p.i p.perturb).1 - (leap m p.i p.perturb).1,i:=(leap m p.i p.perturb).1,perturb:=(leap m p.i p.perturb).2 }
noncomputable def chk (m:Nat) (c:Nat×Nat):Probe:={ j:=c.1,more:=runEnd m c.1 - c.1,i:=c.1,perturb:=c.2,dummy:=none }
noncomputable def pn (m:Nat) (h:Int):Nat->Probe
 | 0=>chk m (bits h % (m+1),bits h)
 | n+1=>rO m (pn m h n)
noncomputable def cn (m:Nat) (h:Int):Nat->Nat×Nat
 | 0=>(bits h % (m+1),bits h)
 | k+1=>leap m (cn m h k).1 (cn m h k).2
theorem AL (t:SetTable) (p:Probe):t.advance p=rO t.mask p:=rfl
theorem sL (m:Nat) (h:Int):∀ k,(cn m h k).1<=m
 | 0=>Nat.le_of_lt_succ (Nat.mod_lt _ (Nat.succ_pos m))
 | k+1=>Nat.le_of_lt_succ (Nat.mod_lt _ (Nat.succ_pos m))
theorem gJ {m i:Nat} (h:i<=m):i<=runEnd m i/\runEnd m i<=m/\runEnd m i<=i+9:=by
 unfold runEnd;split <;> omega
theorem ph {m:Nat} {c:Nat×Nat} {p:Nat->Probe} {n:Nat} (hp:∀ n,p (n+1)=rO m (p n)) (h:p n=chk m c):∀ d,d<=runEnd m c.1 - c.1->p (n+d)={ chk m c with j:=c.1+d,more:=runEnd m c.1 - c.1 - d }
 | 0,_=>h
 | d+1,hd=>by
  have ih:=ph hp h d (by omega);rw [show n+(d+1)=(n+d)+1 by omega,hp,ih];unfold rO;rw [Gs (by show runEnd m c.1 - c.1 - d > 0;omega)];show Probe.mk _ _ _ _ _=Probe.mk _ _ _ _ _;congr 1
theorem o6 {m:Nat} {c:Nat×Nat} {p:Nat->Probe} {n:Nat} (hp:∀ n,p (n+1)=rO m (p n)) (h:p n=chk m c):p (n+(runEnd m c.1 - c.1)+1)=chk m (leap m c.1 c.2):=by
 rw [hp,ph hp h _ (Gu _)];unfold rO;rw [Gy (by show ¬runEnd m c.1 - c.1 - (runEnd m c.1 - c.1) > 0;omega)];rfl
theorem yh (m:Nat) (h:Int):∀ k,∃ n,n<=10*k/\pn m h n=chk m (cn m h k)
 | 0=>⟨0,Gu _,rfl⟩
 | k+1=>by
  obtain ⟨n,hn,e⟩:=yh m h k;have:=gJ (sL m h k);exact ⟨_,by omega,o6 (p:=pn m h) (fun _=>rfl) e⟩
theorem jm (m:Nat) (h:Int):∀ n,∃ k d,d<=runEnd m (cn m h k).1 - (cn m h k).1/\pn m h n={ chk m (cn m h k) with j:=(cn m h k).1+d,more:=runEnd m (cn m h k).1 - (cn m h k).1 - d }
 | 0=>⟨0,0,Hn _,rfl⟩
 | n+1=>by
  obtain ⟨k,d,hd,e⟩:=jm m h n;show ∃ k d,_/\rO m (pn m h n)=_;rw [e];by_cases z:d=runEnd m (cn m h k).1 - (cn m h k).1
  ·refine ⟨k+1,0,Hn _,?_⟩;unfold rO;rw [Gy (by show ¬runEnd m (cn m h k).1 - (cn m h k).1 - d > 0;omega)];rfl
  ·refine ⟨k,d+1,by omega,?_⟩;unfold rO;rw [Gs (by show runEnd m (cn m h k).1 - (cn m h k).1 - d > 0;omega)];show Probe.mk _ _ _ _ _=Probe.mk _ _ _ _ _;congr 1
theorem yW (m:Nat) (h:Int) (n:Nat):(pn m h n).j<=m:=by
 obtain ⟨k,d,hd,e⟩:=jm m h n;have:=gJ (sL m h k);rw [e];show (cn m h k).1+d<=m;omega
theorem tu (m:Nat) (h:Int) (n:Nat):(pn m h n).dummy=none:=by
 obtain ⟨k,d,hd,e⟩:=jm m h n;rw [e];rfl
noncomputable def stp (m i:Nat):Nat:=(i*5+1) % (m+1)
noncomputable def itr (m:Nat):Nat->Nat->Nat
 | 0,i=>i
 | k+1,i=>stp m (itr m k i)
theorem gD (m:Nat) (a:Nat):∀ b i,itr m (b+a) i=itr m b (itr m a i)
 | 0,i=>by rw [Nat.zero_add];rfl
 | b+1,i=>by rw [show b+1+a=(b+a)+1 by omega];show stp m _=stp m _;rw [gD m a b i]
def M3 (m:Nat):Prop:=m=7\/m=31\/m=127\/m=511
noncomputable def mQ (m:Nat):Nat->Nat->List Nat
 | 0,_=>[]
 | k+1,i=>i :: mQ m k (stp m i)
theorem cG (m:Nat):∀ (k i s:Nat),s∈mQ m k i->∃ a,a < k/\itr m a i=s
 | k+1,i,s,h=>by
  rcases Gv.mp h with rfl | h
  ·exact ⟨0,Nat.succ_pos _,rfl⟩
  ·obtain ⟨a,ha,e⟩:=cG m k _ s h;refine ⟨a+1,by omega,?_⟩;rw [gD m 1 a i];exact e
theorem FK:(∀ s∈List.range 8,(mQ 7 8 0).contains s=true)/\(∀ s∈List.range 32,(mQ 31 32 0).contains s=true)/\(∀ s∈List.range 128,(mQ 127 128 0).contains s=true)/\(∀ s∈List.range 512,(mQ 511 512 0).contains s=true):=by decide +kernel
theorem FR:itr 7 8 0=0/\itr 31 32 0=0/\itr 127 128 0=0/\itr 511 512 0=0:=by decide +kernel
theorem yT {m:Nat} (hm:M3 m) {s:Nat} (hs:s<=m):∃ a,a < m+1/\itr m a 0=s:=by
 have h:=FK;rcases hm with rfl | rfl | rfl | rfl
 ·exact cG _ _ _ _ (by simpa using h.1 s (by simp;omega))
 ·exact cG _ _ _ _ (by simpa using h.2.1 s (by simp;omega))
 ·exact cG _ _ _ _ (by simpa using h.2.2.1 s (by simp;omega))
 ·exact cG _ _ _ _ (by simpa using h.2.2.2 s (by simp;omega))
theorem per {m:Nat} (hm:M3 m):itr m (m+1) 0=0:=by
 have h:=FR;rcases hm with rfl | rfl | rfl | rfl
 ·exact h.1
 ·exact h.2.1
 ·exact h.2.2.1
 ·exact h.2.2.2
theorem reach {m:Nat} (hm:M3 m) {i s:Nat} (hi:i<=m) (hs:s<=m):∃ k,k<=m/\itr m k i=s:=by
 obtain ⟨a,ha,ea⟩:=yT hm hi;obtain ⟨b,hb,eb⟩:=yT hm hs;by_cases z:a<=b
 ·refine ⟨b - a,by omega,?_⟩;rw [<- ea,<-gD,show b - a+a=b by omega,eb]
 ·refine ⟨m+1 - a+b,by omega,?_⟩;rw [<- ea,<-gD,show m+1 - a+b+a=b+(m+1) by omega,gD,per hm,eb]
theorem wM (h:Int):bits h < 2 ^ 64:=by
 unfold bits;have:=Int.emod_lt_of_pos h (show (0:Int) < 2 ^ 64 by decide);have:=Int.emod_nonneg h (show (2 ^ 64:Int)≠0 by decide);omega
theorem qK (m:Nat) (h:Int):∀ k,(cn m h k).2=bits h / 32 ^ k
 | 0=>by show bits h=_;rw [Nat.pow_zero,Nat.div_one]
 | k+1=>by show (cn m h k).2 / 32=_;rw [qK m h k,Nat.div_div_eq_div_mul,<-IQ]
theorem v9 (m:Nat) (h:Int) {k:Nat} (hk:13<=k):(cn m h k).2=0:=by
 rw [qK];refine Nat.div_eq_of_lt (GD (wM h) ?_);exact GU (by decide:2 ^ 64<=32 ^ 13) (Ih (by decide) hk)
theorem t5 (m:Nat) (h:Int):∀ d,(cn m h (13+d)).1=itr m d (cn m h 13).1
 | 0=>rfl
 | d+1=>by
  show ((cn m h (13+d)).1*5+1+(cn m h (13+d)).2 / 32) % (m+1)=stp m _;rw [v9 m h (by omega),t5 m h d];rfl
theorem lG {m:Nat} (hm:M3 m) (h:Int) {s:Nat} (hs:s<=m):∃ k,k<=13+m/\(cn m h k).1=s:=by
 obtain ⟨k,hk,e⟩:=reach hm (sL m h 13) hs;exact ⟨13+k,by omega,by rw [t5];exact e⟩
theorem se {m:Nat} (hm:M3 m) (h:Int) {s:Nat} (hs:s<=m):∃ n,n < 10*turns m/\(pn m h n).j=s:=by
 obtain ⟨k,hk,e⟩:=lG hm h hs;obtain ⟨n,hn,e2⟩:=yh m h k;refine ⟨n,by unfold turns;omega,?_⟩;rw [e2];exact e
open PySem PySem.SetTable
abbrev Ris (xs:List Nat):Prop:=xs.Pairwise (· < ·)
theorem kY {xs:List Nat} (h:Ris xs) {i k:Nat} (hi:i < k) (hk:k < xs.length):xs[i]'(by omega) < xs[k]:=HE.mp h i k (by omega) hk hi
theorem getD_at {xs:Array Nat} {i d:Nat} (h:i < xs.toList.length):xs.getD i d=xs.toList[i]:=by
 rw [Ho,He (by simpa using h)];simp
theorem iI {xs:Array Nat} {j:Nat} (h:Ris xs.toList):∀ (f lo hi:Nat),hi<=xs.toList.length->lo<=hi->hi - lo<=f->(∀ i (z:i < xs.toList.length),i < lo->xs.toList[i] < j)->(∀ i (z:i < xs.toList.length),hi<=i->j<=xs.toList[i]) ->
  below.go xs j f lo hi<=xs.toList.length/\(∀ i (z:i < xs.toList.length),i < below.go xs j f lo hi->xs.toList[i] < j)/\∀ i (z:i < xs.toList.length),below.go xs j f lo hi<=i->j<=xs.toList[i]
 | 0,lo,hi,h1,h2,h3,a,b=>by
  have:lo=hi:=by omega
  subst this;exact ⟨by show lo<=_;omega,a,b⟩
 | f+1,lo,hi,h1,h2,h3,a,b=>by
  unfold below.go;by_cases hl:lo < hi
  ·rw [Gs hl];dsimp only;have hm:(lo+hi) / 2 < xs.toList.length:=by omega
   rw [getD_at hm];by_cases hc:xs.toList[(lo+hi) / 2] < j
   ·rw [Gs hc];refine iI h f _ _ h1 (by omega) (by omega) (fun i z hi'=>?_) b;by_cases e:i=(lo+hi) / 2
    ·subst e;exact hc
    ·exact Nat.lt_trans (kY h (by omega) hm) hc
   ·rw [Gy hc];refine iI h f _ _ (by omega) (by omega) (by omega) a (fun i z hi'=>?_);by_cases e:i=(lo+hi) / 2
    ·subst e;omega
    ·have:=kY h (show (lo+hi) / 2 < i by omega) z;omega
  ·rw [Gy hl];have:lo=hi:=by omega
   subst this;exact ⟨by omega,a,b⟩
theorem eL {xs:Array Nat} (j:Nat) (h:Ris xs.toList):below xs j<=xs.toList.length/\(∀ i (z:i < xs.toList.length),i < below xs j->xs.toList[i] < j)/\∀ i (z:i < xs.toList.length),below xs j<=i->j<=xs.toList[i]:=by
 refine iI h _ _ _ (by simp) (Hn _) (by omega) (fun i z hi=>by omega) (fun i z hi=>?_);simp at z;omega
theorem cJ {xs:Array Nat} {j:Nat} (h:Ris xs.toList) {i:Nat} (e:xs.toList[i]?=some j):below xs j=i:=by
 obtain ⟨a,b,c⟩:=eL j h;obtain ⟨hi,e⟩:=Gh.mp e;rcases Nat.lt_trichotomy (below xs j) i with z | z | z
 ·have h1:=c _ (by omega) (Gu _);have h2:=kY h z hi;omega
 ·exact z
 ·have:=b i hi z;omega
theorem arr_get? {xs:Array Nat} (i:Nat):xs[i]?=xs.toList[i]?:=by simp
theorem oz (j:Nat):has #[] j=false:=rfl
theorem jV {t:SetTable} {j i:Nat} (h:Ris t.place.toList) (e:t.place.toList[i]?=some j):t.slot j=.live i:=by
 unfold SetTable.slot;dsimp only;rw [cJ h e,arr_get?,e,Gs (by simp)]
theorem mJ {t:SetTable} {j:Nat} (hd:t.dummies=#[]) (e:j ∉ t.place.toList):t.slot j=.empty:=by
 unfold SetTable.slot;dsimp only;rw [Gy (fun z=>e ?_),hd,oz]
 ·rfl
 ·have z:=eq_of_beq z;rw [arr_get?] at z;exact Gx z
structure Tb (t:SetTable) (hs:List Int):Prop where
 ms:M3 t.mask
 nd:t.dummies=#[]
 len:t.place.toList.length=hs.length
 ris:Ris t.place.toList
 le:∀ j∈t.place.toList,j<=t.mask
 fil:t.place.toList.length<=t.mask
 pr:∀ (i j:Nat) (h:Int),t.place.toList[i]?=some j->hs[i]?=some h->∃ n,(pn t.mask h n).j=j/\∀ m,m < n->(pn t.mask h m).j∈t.place.toList
theorem ex_free {xs:List Nat} {m:Nat} (h:Ris xs) (hl:xs.length<=m):∃ j,j<=m/\j ∉ xs:=by
 apply Hq;intro hn;have hall:∀ j∈List.range (m+1),j∈xs:=fun j hj=>Hq fun z=>hn ⟨j,by simpa [Nat.lt_succ_iff] using hj,z⟩;have hnd:(List.range (m+1)).Nodup:=List.nodup_range;have:=I0 hnd (fun j hj=>hall j hj);rw [Hf] at this;omega
theorem least {p:Nat->Prop}:∀ n,p n->∃ m,m<=n/\p m/\∀ k,k < m->¬p k:=by
 intro n;induction n using Nat.strongRecOn with
 | _ n ih =>
  intro h;by_cases z:∃ k,k < n/\p k
  ·obtain ⟨k,hk,pk⟩:=z;obtain ⟨m,a,b,c⟩:=ih k hk pk;exact ⟨m,by omega,b,c⟩
  ·exact ⟨n,Gu _,h,fun k hk pk=>z ⟨k,hk,pk⟩⟩
theorem Tb.first {t:SetTable} {hs:List Int} (T:Tb t hs) (h:Int):∃ n,n < 10*turns t.mask/\(pn t.mask h n).j ∉ t.place.toList/\∀ m,m < n->(pn t.mask h m).j∈t.place.toList:=by
 obtain ⟨j,hj,hn⟩:=ex_free T.ris T.fil;obtain ⟨n,hn2,e⟩:=se T.ms h hj;obtain ⟨m,a,b,c⟩:=least (p:=fun n=>(pn t.mask h n).j ∉ t.place.toList) n (by rw [e];exact hn);exact ⟨m,by omega,b,fun k hk=>Hq (c k hk)⟩
theorem Tb.nY {t:SetTable} {hs:List Int} (T:Tb t hs) {h:Int} {f:Nat->Int} {n0:Nat} (h0:(pn t.mask h n0).j ∉ t.place.toList) (hb:∀ m,m < n0->(pn t.mask h m).j∈t.place.toList) :
  ∀ (fuel n:Nat),n<=n0->n0 - n < fuel ->
   (probe.go t f h fuel (pn t.mask h n)=some (.empty (pn t.mask h n0).j none)/\∀ m i,n<=m->m < n0->t.place.toList[i]?=some (pn t.mask h m).j->f i≠h) \/
   ∃ m i,n<=m/\m < n0/\t.place.toList[i]?=some (pn t.mask h m).j/\f i=h/\probe.go t f h fuel (pn t.mask h n)=some (.candidate (pn t.mask h m).j i (pn t.mask h (m+1)))/\∀ m' i',n<=m'->m' < m->t.place.toList[i']?=some (pn t.mask h m').j->f i'≠h
 | 0,n,hn,hf=>by omega
 | fuel+1,n,hn,hf=>by
  unfold probe.go;by_cases z:n=n0
  ·subst z;rw [mJ T.nd h0];refine .inl ⟨by show some (Met.empty _ (pn t.mask h n).dummy)=_;rw [tu],fun m i a b=>by omega⟩
  ·obtain ⟨i,hi⟩:=Hb.mp (hb n (by omega));rw [jV T.ris hi];dsimp only;have uniq:∀ i',t.place.toList[i']?=some (pn t.mask h n).j->i'=i:=fun i' e=>by rw [<- cJ T.ris e,<-cJ T.ris hi]
   by_cases c:f i=h
   ·rw [Gs (by simpa using c)];exact .inr ⟨n,i,Gu _,by omega,hi,c,rfl,fun m' i' a b=>by omega⟩
   ·rw [Gy (by simpa using c)];have ih:=T.nY (f:=f) h0 hb fuel (n+1) (by omega) (by omega);rw [AL];show (probe.go t f h fuel (pn t.mask h (n+1))=_/\_)\/_;rcases ih with ⟨e,q⟩ | ⟨m,k,a,b,c1,c2,c3,c4⟩
    ·refine .inl ⟨e,fun m i' a b d=>?_⟩;by_cases y:m=n
     ·subst y;rw [uniq i' d];exact c
     ·exact q m i' (by omega) b d
    ·refine .inr ⟨m,k,by omega,b,c1,c2,c3,fun m' i' a' b' d=>?_⟩;by_cases y:m'=n
     ·subst y;rw [uniq i' d];exact c
     ·exact c4 m' i' (by omega) b' d
theorem Tb.met {t:SetTable} {hs:List Int} (T:Tb t hs) {h:Int} {n0 i j:Nat} (h0:(pn t.mask h n0).j ∉ t.place.toList) (hi:t.place.toList[i]?=some j) (hh:hs[i]?=some h):∃ n,n < n0/\(pn t.mask h n).j=j:=by
 obtain ⟨n,e,a⟩:=T.pr i j h hi hh;refine ⟨n,?_,e⟩;rcases Nat.lt_trichotomy n n0 with z | z | z
 ·exact z
 ·subst z;rw [e] at h0;exact absurd (Gx hi) h0
 ·exact absurd (a n0 z) h0
noncomputable def iG {α:Type} (xs:List α) (p:Nat) (x:α):List α:=xs.take p++x :: xs.drop p
theorem aP {α:Type} (xs:Array α) (p:Nat) (x:α):(insertAt xs p x).toList=iG xs.toList p x:=by
 unfold insertAt iG;simp [Hw]
theorem l6 {α:Type} {xs:List α} {p:Nat} {x y:α}:y∈iG xs p x↔y=x\/y∈xs:=by
 unfold iG;rw [GS,Gv]
 conv=>rhs;rw [<- IW p xs,GS]
 constructor
 ·rintro (h | h | h)
  ·exact .inr (.inl h)
  ·exact .inl h
  ·exact .inr (.inr h)
 ·rintro (h | h | h)
  ·exact .inr (.inl h)
  ·exact .inl h
  ·exact .inr (.inr h)
theorem cR {α:Type} {xs:List α} {p:Nat} {x:α} (h:p<=xs.length):(iG xs p x).length=xs.length+1:=by
 unfold iG;rw [Gf,GH,GX,HC];omega
theorem cS {α:Type} {xs:List α} {p i:Nat} {x:α} (h:p<=xs.length):(iG xs p x)[i]?=if i < p then xs[i]? else if i=p then some x else xs[i - 1]?:=by
 unfold iG;by_cases z:i < p
 ·rw [Gs z,Gz (by rw [GX];omega),List.getElem?_take,Gs z]
 ·rw [Gy z,Gj (by rw [GX];omega),GX,Jz h];by_cases y:i=p
  ·subst y;rw [Gs rfl,IP];rfl
  ·rw [Gy y,show i - p=(i - p - 1)+1 by omega,List.getElem?_cons_succ,IL];congr 1;omega
theorem vt {xs:Array Nat} {j:Nat} (h:Ris xs.toList) (hn:j ∉ xs.toList):Ris (iG xs.toList (below xs j) j):=by
 obtain ⟨a,b,c⟩:=eL j h;unfold iG;refine GJ.mpr ⟨h.sublist (List.take_sublist _ _),Ht.mpr ⟨fun y hy=>?_,h.sublist (List.drop_sublist _ _)⟩,fun x hx y hy=>?_⟩
 ·obtain ⟨k,hk⟩:=Hb.mp hy;rw [IL] at hk;obtain ⟨z,e⟩:=Gh.mp hk;have:=c _ z (by omega);have:j≠y:=fun q=>hn (q▸e▸IH z);omega
 ·obtain ⟨k,hk⟩:=Hb.mp hx;have kp:k < below xs j:=by
   apply Hq;intro q;rw [HS (by rw [GX];omega)] at hk;cases hk
  rw [List.getElem?_take,Gs kp] at hk;obtain ⟨z,e⟩:=Gh.mp hk;have b1:=b k z kp;rcases Gv.mp hy with rfl | hy
  ·omega
  ·obtain ⟨k2,hk2⟩:=Hb.mp hy;rw [IL] at hk2;obtain ⟨z2,e2⟩:=Gh.mp hk2;have:=c _ z2 (by omega);omega
theorem Tb.put {t:SetTable} {hs:List Int} (T:Tb t hs) {h:Int} {n0:Nat} (h0:(pn t.mask h n0).j ∉ t.place.toList) (hb:∀ m,m < n0->(pn t.mask h m).j∈t.place.toList) (hf:t.place.toList.length+1<=t.mask) :
  Tb (t.put (pn t.mask h n0).j).1 (iG hs (t.put (pn t.mask h n0).j).2 h)/\(t.put (pn t.mask h n0).j).2<=hs.length:=by
 have hp:=(eL (pn t.mask h n0).j T.ris).1;have e1:((t.put (pn t.mask h n0).j).1).place.toList=iG t.place.toList (below t.place (pn t.mask h n0).j) (pn t.mask h n0).j:=aP _ _ _;have hq:below t.place (pn t.mask h n0).j<=hs.length:=by rw [<- T.len];exact hp
 refine ⟨⟨T.ms,?_,?_,?_,?_,?_,?_⟩,hq⟩
 ·show (if has t.dummies _=true then _ else t.dummies)=_;rw [T.nd,oz];rfl
 ·rw [e1,cR hp,T.len];exact (cR hq).symm
 ·rw [e1];exact vt T.ris h0
 ·intro j hj;rw [e1] at hj;rcases l6.mp hj with rfl | hj
  ·exact yW _ _ _
  ·exact T.le j hj
 ·rw [e1,cR hp];exact hf
 ·intro i j k hi hk;have mono:∀ x,x∈t.place.toList->x∈((t.put (pn t.mask h n0).j).1).place.toList:=fun x hx=>by rw [e1];exact l6.mpr (.inr hx)
  rw [e1,cS hp] at hi;rw [show (t.put (pn t.mask h n0).j).2=below t.place (pn t.mask h n0).j from rfl,cS hq] at hk;split at hi
  ·rename_i z;rw [Gs z] at hk;obtain ⟨n,a,b⟩:=T.pr i j k hi hk;exact ⟨n,a,fun m hm=>mono _ (b m hm)⟩
  ·rename_i z;rw [Gy z] at hk;split at hi
   ·rename_i y;rw [Gs y] at hk;cases hi;cases hk;exact ⟨n0,rfl,fun m hm=>mono _ (hb m hm)⟩
   ·rename_i y;rw [Gy y] at hk;obtain ⟨n,a,b⟩:=T.pr (i - 1) j k hi hk;exact ⟨n,a,fun m hm=>mono _ (b m hm)⟩
open PySem PySem.SetTable
abbrev Occ (ow:Array (Option Nat)) (j:Nat):Prop:=∃ i,ow[j]?=some (some i)
theorem iK {ow:Array (Option Nat)} {m j:Nat} (hs:ow.size=m+1) (hj:j<=m):(ow.getD j (some 0)).isNone=false↔Occ ow j:=by
 rw [Ho,He (by omega)];simp only [Option.getD_some,Option.isNone_eq_false_iff,Option.isSome_iff_exists];constructor
 ·rintro ⟨i,e⟩;exact ⟨i,by rw [He (by omega),e]⟩
 ·rintro ⟨i,e⟩;rw [He (by omega)] at e;exact ⟨i,by injection e⟩
theorem pH {ow:Array (Option Nat)} {m:Nat} {h:Int} (hs:ow.size=m+1):∀ (f k n:Nat),pn m h n=chk m (cn m h k)->(∀ m',m' < n->Occ ow (pn m h m').j)->(∃ k',k<=k'/\k' < k+f/\¬Occ ow (cn m h k').1) ->
  ∃ n',layClean.free m ow f (cn m h k).1 (cn m h k).2=some (pn m h n').j/\¬Occ ow (pn m h n').j/\∀ m',m' < n'->Occ ow (pn m h m').j
 | 0,k,n,e,ho,⟨k',a,b,c⟩=>by omega
 | f+1,k,n,e,ho,⟨k',a,b,c⟩=>by
  have hr:=gJ (sL m h k);have at_:∀ d,d<=runEnd m (cn m h k).1 - (cn m h k).1->(pn m h (n+d)).j=(cn m h k).1+d:=fun d hd=>by rw [ph (p:=pn m h) (fun _=>rfl) e d hd]
  unfold layClean.free;cases hf:(List.range (runEnd m (cn m h k).1+1 - (cn m h k).1)).find? fun d=>(ow.getD ((cn m h k).1+d) (some 0)).isNone with
  | some d =>
   dsimp only;obtain ⟨hp,as,bs,hab,hall⟩:=List.find?_eq_some_iff_append.mp hf;have hd:d < runEnd m (cn m h k).1+1 - (cn m h k).1:=by
    have:d∈List.range (runEnd m (cn m h k).1+1 - (cn m h k).1):=by rw [hab];simp
    simpa using this
   have hal:as.length=d:=by
    have h1:(List.range (runEnd m (cn m h k).1+1 - (cn m h k).1))[as.length]?=some d:=by rw [hab];simp
    have h2:as.length < runEnd m (cn m h k).1+1 - (cn m h k).1:=by
     have:=(Gh.mp h1).1;simpa using this
    rw [List.getElem?_range h2] at h1;injection h1
   have has:as=List.range d:=by
    have:=congrArg (List.take d) hab;rw [List.take_left' hal,List.take_range,Jz (by omega)] at this;exact this.symm
   refine ⟨n+d,by rw [at_ d (by omega)],?_,fun m' hm=>?_⟩
   ·rw [at_ d (by omega),<-iK hs (by omega)];rw [hp];simp
   ·by_cases z:m' < n
    ·exact ho m' z
    ·have hd':m' - n < d:=by omega
     have:=hall (m' - n) (by rw [has];simpa using hd');rw [show m'=n+(m' - n) by omega,at_ _ (by omega),<-iK hs (by omega)];simpa using this
  | none =>
   dsimp only;have hn:=List.find?_eq_none.mp hf;have occ:∀ d,d<=runEnd m (cn m h k).1 - (cn m h k).1->Occ ow ((cn m h k).1+d):=fun d hd=>by
    have:=hn d (by simp;omega);rw [<- iK hs (by omega)];exact Bool.eq_false_iff.mpr this
   refine pH hs f (k+1) _ (o6 (p:=pn m h) (fun _=>rfl) e) (fun m' hm=>?_) ⟨k',?_,by omega,c⟩
   ·by_cases z:m' < n
    ·exact ho m' z
    ·rw [show m'=n+(m' - n) by omega,at_ _ (by omega)];exact occ _ (by omega)
   ·rcases IG k k' with z | z
    ·exact z
    ·have:k'=k:=by omega
     subst this;exact absurd (occ 0 (Hn _)) c
structure Ow (m:Nat) (hs:List Int) (ow:Array (Option Nat)) (k:Nat):Prop where
 sz:ow.size=m+1
 own:∀ {j i:Nat},ow[j]?=some (some i)->i < k
 one:∀ {i:Nat},i < k->∃ j:Nat,ow[j]?=some (some i)
 inj:∀ {j j' i:Nat},ow[j]?=some (some i)->ow[j']?=some (some i)->j=j'
 pr:∀ {j i:Nat} {h:Int},ow[j]?=some (some i)->hs[i]?=some h->∃ n,(pn m h n).j=j/\∀ m',m' < n->Occ ow (pn m h m').j
theorem Ow.free {m:Nat} {hs:List Int} {ow:Array (Option Nat)} {k:Nat} (O:Ow m hs ow k) (hk:k<=m):∃ j,j<=m/\¬Occ ow j:=by
 apply Hq;intro hn;have hall:∀ j,j<=m->Occ ow j:=fun j hj=>Hq fun z=>hn ⟨j,hj,z⟩;have hg:∀ j,j<=m->ow[j]?=some (some ((ow.getD j none).getD 0)):=fun j hj=>by
  obtain ⟨i,e⟩:=hall j hj;rw [Ho,e];rfl
 have nd:((List.range (m+1)).map fun j=>(ow.getD j none).getD 0).Nodup:=by
  unfold List.Nodup;rw [Ir];refine List.nodup_range.imp_of_mem fun {a b} ha hb hne e=>hne ?_;have ha:=hg a (by simpa [Nat.lt_succ_iff] using ha);have hb:=hg b (by simpa [Nat.lt_succ_iff] using hb);rw [e] at ha;exact O.inj ha hb
 have:=I0 (l₂:=List.range k) nd (fun x hx=>by
  obtain ⟨j,hj,rfl⟩:=GO.mp hx;have:=O.own (hg j (by simpa [Nat.lt_succ_iff] using hj))
  simpa using this)
 rw [Gg,Hf,Hf] at this;omega
noncomputable def lyS (m:Nat) (acc:Option (Array (Option Nat)×Nat)) (h:Int):Option (Array (Option Nat)×Nat):=do
 let (owner,k)<-acc
 let j<-layClean.free m owner (turns m) (bits h % (m+1)) (bits h)
 pure (owner.setIfInBounds j (some k),k+1)
theorem Ow.step {m:Nat} (hm:M3 m) {hs:List Int} {ow:Array (Option Nat)} {k:Nat} {h:Int} (O:Ow m hs ow k) (hk:k<=m) (e:hs[k]?=some h):∃ ow',lyS m (some (ow,k)) h=some (ow',k+1)/\Ow m hs ow' (k+1):=by
 obtain ⟨j,hj,hn⟩:=O.free hk;obtain ⟨k',hk',ek⟩:=lG hm h hj;obtain ⟨n,f1,f2,f3⟩:=pH (h:=h) O.sz (turns m) 0 0 rfl (fun m' z=>by omega) ⟨k',Hn _,by unfold turns;omega,by rw [ek];exact hn⟩;have hle:=yW m h n;generalize hJ:(pn m h n).j=J at f1 f2 hle;have get:∀ x,(ow.setIfInBounds J (some k))[x]?=if x=J then some (some k) else ow[x]?:=fun x=>by
  rw [Array.getElem?_setIfInBounds];by_cases z:J=x
  ·subst z;rw [Gs rfl,Gs rfl,Gs (by rw [O.sz];omega)]
  ·rw [Gy z,Gy (fun q=>z q.symm)]
 have mono:∀ x,Occ ow x->Occ (ow.setIfInBounds J (some k)) x:=fun x ⟨i,q⟩=>by
  by_cases z:x=J
  ·exact ⟨k,by rw [get,Gs z]⟩
  ·exact ⟨i,by rw [get,Gy z];exact q⟩
 refine ⟨ow.setIfInBounds J (some k),?_,?_,?_,?_,?_,?_⟩
 ·unfold lyS;have f1:layClean.free m ow (turns m) (bits h % (m+1)) (bits h)=some J:=f1;simp only [Option.bind_eq_bind,Option.bind_some,f1];rfl
 ·rw [Array.size_setIfInBounds];exact O.sz
 ·intro x i q;rw [get] at q;split at q
  ·cases q;omega
  ·have:=O.own q;omega
 ·intro i hi;by_cases z:i=k
  ·exact ⟨J,by rw [get,Gs rfl,z]⟩
  ·obtain ⟨x,q⟩:=O.one (show i < k by omega);refine ⟨x,?_⟩;have y:x≠J:=fun y=>f2 ⟨i,by rw [<- y];exact q⟩;rw [get,Gy y];exact q
 ·intro x y i q1 q2;rw [get] at q1 q2;split at q1 <;> split at q2
  ·omega
  ·cases q1;have:=O.own q2;omega
  ·cases q2;have:=O.own q1;omega
  ·exact O.inj q1 q2
 ·intro x i h' q1 q2;rw [get] at q1;split at q1
  ·rename_i z;cases q1;rw [e] at q2;cases q2;exact ⟨n,by rw [hJ,z],fun m' hm'=>mono _ (f3 m' hm')⟩
  ·obtain ⟨n',a,b⟩:=O.pr q1 q2;exact ⟨n',a,fun m' hm'=>mono _ (b m' hm')⟩
theorem Ow.fold {m:Nat} (hm:M3 m) {hs:List Int} (hl:hs.length<=m):∀ (rest:List Int) (k:Nat) (ow:Array (Option Nat)),hs.drop k=rest->k<=hs.length->Ow m hs ow k->∃ ow',rest.foldl (lyS m) (some (ow,k))=some (ow',hs.length)/\Ow m hs ow' hs.length
 | [],k,ow,hd,hk,O=>by
  have:hs.length<=k:=ID.mp hd;have:k=hs.length:=by omega
  subst this;exact ⟨ow,rfl,O⟩
 | h :: rest,k,ow,hd,hk,O=>by
  have hlt:k < hs.length:=by
   apply Hq;intro z;rw [ID.mpr (by omega)] at hd;cases hd
  rw [HF hlt] at hd;injection hd with h1 h2;obtain ⟨ow',e,O'⟩:=O.step hm (by omega) (by rw [Gd hlt,h1]);rw [HR,e];exact Ow.fold hm hl rest (k+1) ow' h2 hlt O'
theorem kP {m:Nat} (hm:M3 m) {hs:List Int} (hl:hs.length<=m):∃ ow,layClean m hs.toArray=some ow/\Ow m hs ow hs.length:=by
 have O0:Ow m hs (Array.replicate (m+1) none) 0:=by
  have no:∀ {j i:Nat},¬(Array.replicate (m+1) (none:Option Nat))[j]?=some (some i):=fun {j i} q=>by
   rw [Array.getElem?_replicate] at q;split at q <;> cases q
  exact ⟨by simp,fun q=>absurd q no,fun z=>absurd z (by omega),fun q=>absurd q no,fun q=>absurd q no⟩
 obtain ⟨ow,e,O⟩:=Ow.fold hm hl hs 0 _ rfl (Hn _) O0;refine ⟨ow,?_,O⟩;unfold layClean;rw [<- Array.foldl_toList,HY];have:(hs.foldl (lyS m) (some (Array.replicate (m+1) none,0)))=some (ow,hs.length):=e;unfold lyS at this;rw [this];rfl
abbrev liv (m:Nat) (ow:Array (Option Nat)):List (Nat×Nat):=(List.range (m+1)).filterMap fun j=>(ow.getD j none).map (j,·)
theorem wW {m:Nat} {ow:Array (Option Nat)} (hs:ow.size=m+1) {j i:Nat}:(j,i)∈liv m ow↔ow[j]?=some (some i):=by
 unfold liv;rw [List.mem_filterMap];constructor
 ·rintro ⟨a,ha,e⟩;obtain ⟨b,hb,e⟩:=GW.mp e;injection e with e1 e2;subst e1 e2;rw [Ho] at hb;have hlt:a < ow.size:=by
   have:a < m+1:=by simpa using ha
   omega
  rw [He hlt] at hb ⊢;rw [<- hb];rfl
 ·intro e;have hj:j < ow.size:=(Array.getElem?_eq_some_iff.mp e).1;refine ⟨j,by simp;omega,?_⟩;rw [Ho,e];rfl
theorem qb {m:Nat} {ow:Array (Option Nat)}:Ris ((liv m ow).map (·.1)):=by
 unfold Ris;rw [Ir,List.pairwise_filterMap];refine List.pairwise_lt_range.imp fun {a b} hab x hx y hy=>?_;obtain ⟨_,_,rfl⟩:=GW.mp hx;obtain ⟨_,_,rfl⟩:=GW.mp hy;exact hab
theorem qo (t:SetTable) {hs:List Int} {wanted:Nat} (hm:M3 (sizeAbove wanted - 1)) (hl:hs.length<=sizeAbove wanted - 1) :
  ∃ t' od,t.relaid hs.toArray wanted=some (t',od)/\od.toList.Perm (List.range hs.length)/\Tb t' (od.toList.filterMap (hs[·]?))/\t'.led=t.led/\t'.plain=t.plain:=by
 obtain ⟨ow,e,O⟩:=kP hm hl;generalize hM:sizeAbove wanted - 1=m at hm hl e O;have lm:=fun {j i}=>wW O.sz (j:=j) (i:=i);have ndo:((liv m ow).map (·.2)).Nodup:=by
  unfold List.Nodup;rw [Ir];have r:=qb (m:=m) (ow:=ow);unfold Ris at r;rw [Ir] at r;refine r.imp_of_mem fun {a b} ha hb hab q=>?_;obtain ⟨a1,a2⟩:=a;obtain ⟨b1,b2⟩:=b;have q:a2=b2:=q;subst q;have:a1=b1:=O.inj (lm.mp ha) (lm.mp hb);have hab:a1 < b1:=hab;omega
 have pm:((liv m ow).map (·.2)).Perm (List.range hs.length):=by
  refine (List.perm_ext_iff_of_nodup ndo List.nodup_range).mpr fun i=>?_;rw [GO];constructor
  ·rintro ⟨⟨j,i'⟩,hm',rfl⟩;have:=O.own (lm.mp hm');simpa using this
  ·intro hi;obtain ⟨j,q⟩:=O.one (show i < hs.length by simpa using hi);exact ⟨(j,i),lm.mpr q,rfl⟩
 have hlt:∀ p∈liv m ow,p.2 < hs.length:=fun p hp=>by
  have:=pm.mem_iff.mp (GO.mpr ⟨p,hp,rfl⟩);simpa using this
 have fm:∀ l:List (Nat×Nat),(∀ p∈l,p.2 < hs.length)->(l.map (·.2)).filterMap (hs[·]?)=l.map fun p=>hs.getD p.2 0:=by
  intro l;induction l with
  | nil=>intro _;rfl
  | cons p l ih =>
   intro hl;have hp:=hl p Gm;rw [List.map_cons,List.filterMap_cons_some (b:=hs[p.2]) (Gd hp),ih fun q hq=>hl q (Gp _ hq),List.map_cons,GP,Gd hp];rfl
 refine ⟨{ mask:=m,place:=((liv m ow).map (·.1)).toArray,dummies:=#[],finger:=t.finger,led:=t.led,moves:=t.movedTo m,plain:=t.plain },((liv m ow).map (·.2)).toArray,?_,?_,?_,rfl,rfl⟩
 ·unfold relaid laid;rw [hM,e];rfl
 ·rw [HY];exact pm
 ·have fl:=fm _ hlt;have pl:({ mask:=m,place:=((liv m ow).map (·.1)).toArray,dummies:=#[],finger:=t.finger,led:=t.led,moves:=t.movedTo m,plain:=t.plain }:SetTable).place.toList=(liv m ow).map (·.1):=by simp
  refine ⟨hm,rfl,?_,?_,?_,?_,?_⟩
  ·rw [pl,HY,fl,Gg,Gg]
  ·rw [pl];exact qb
  ·intro j hj;rw [pl] at hj;obtain ⟨⟨j',i⟩,hp,rfl⟩:=GO.mp hj;have:=(Array.getElem?_eq_some_iff.mp (lm.mp hp)).1;rw [O.sz] at this;show j'<=m;omega
  ·rw [pl,Gg,<-Gg (f:=(·.2)),pm.length_eq,Hf];exact hl
  ·intro i j h hi hh;rw [pl,GB] at hi;obtain ⟨⟨j',o⟩,hp,rfl⟩:=GW.mp hi;rw [HY,fl,GB,hp] at hh;have hmem:=Gx hp;have ho:=hlt _ hmem;have hh:some (hs.getD o 0)=some h:=hh;injection hh with hh;have hho:hs[o]?=some h:=by
    rw [Gd ho,<-hh,GP,Gd ho];rfl
   obtain ⟨n,a,b⟩:=O.pr (lm.mp hmem) hho;refine ⟨n,a,fun m' hm'=>?_⟩;obtain ⟨i',q⟩:=b m' hm';rw [pl];exact GO.mpr ⟨_,lm.mpr q,rfl⟩
open PySem PySem.Spec PyProof.Rows PySem.SetTable
noncomputable def Bk:PyData->Bool | .tuple _=>true | _=>false
section
variable {P:Program} {w:World} {A:Around} {E:Value->Shared->Prop} {s:Shared}
theorem x6:∀ (n:Nat) {d:PyData} {v:Value} {as:List Addr} {Q:Bool->Shared->Prop},Reads s.heap v d as->hkB d=true->d.depth<=n->Q false s->wpAny (model P w) A (ofAClassStatement n v) Q E s:=by
 intro n;induction n with
 | zero =>
  intro d v as Q r h hd q;cases r with
  | int i t=>exact Gi q
  | str x t=>exact Gi q
  | tuple _ _ _ _=>rw [PyData.depth] at hd;omega
  | _=>cases h
 | succ n ih =>
  intro d v as Q r h hd q;cases r with
  | int i t=>exact Gi q
  | str x t=>exact Gi q
  | @tuple a o vs k xs as ho hc hdt ra =>
   have hT:s.TypeIs (.ref a) "tuple" := ⟨o,ho,hc⟩;unfold ofAClassStatement;refine Ge (Jv hT ?_);dsimp only;refine Ge (Gi ?_);simp only [Jb,Hc,HP];refine Ge (Jh ho hdt ?_);dsimp only;refine Ge ?_;show wpAny _ _ (forIn vs _ _) _ _ s;rw [<- Jk];have hx:=cU.mp h;refine IX _ (fun rest r s'=>r.1=none/\s'=s/\∀ u∈rest,u∈vs.toList) _ ?_ ?_ _ _ ⟨rfl,rfl,fun _ z=>z⟩
   ·rintro u rest r s' ⟨hr,rfl,hall⟩;obtain ⟨i,hi⟩:=Hb.mp (hall u Gm);obtain ⟨d',bs,e1,r1⟩:=(bq ra).2 i u hi;have hm:=Gx e1;refine Ge (ih r1 (hx d' hm) (by have:=gc hm;omega) ?_);simp only [Hc,HP];exact Gi ⟨rfl,rfl,fun y hy=>hall y (Gp _ hy)⟩
   ·rintro ⟨r1,r2⟩ s' ⟨hr,rfl,_⟩;simp only at hr;subst hr;exact Gi q
  | _=>cases h
theorem Dx:∀ (n:Nat) {d:PyData} {v:Value} {as:List Addr} {Q:Bool->Shared->Prop},Reads s.heap v d as->hkB d=true->(∀ b,Q b s)->wpAny (model P w) A (hashByValue n v) Q E s:=by
 intro n;induction n with
 | zero =>
  intro d v as Q r h q;cases r with
  | int i t=>exact Gi (q _)
  | str x t=>exact Gi (q _)
  | tuple _ _ _ _=>exact Gi (q _)
  | _=>cases h
 | succ n ih =>
  intro d v as Q r h q;cases r with
  | int i t=>exact Gi (q _)
  | str x t=>exact Gi (q _)
  | @tuple a o vs k xs as ho hc hdt ra =>
   have hT:s.TypeIs (.ref a) "tuple" := ⟨o,ho,hc⟩;unfold hashByValue;refine Ge (Io hT F.slot_tuple_hash.lookup ?_);dsimp only;refine Ge (Jh ho hdt ?_);refine Ge ?_;show wpAny _ _ (forIn vs _ _) _ _ s;rw [<- Jk];have hx:=cU.mp h;refine IX _ (fun rest r s'=>r.1=none/\s'=s/\∀ u∈rest,u∈vs.toList) _ ?_ ?_ _ _ ⟨rfl,rfl,fun _ z=>z⟩
   ·rintro u rest r s' ⟨hr,rfl,hall⟩;obtain ⟨i,hi⟩:=Hb.mp (hall u Gm);obtain ⟨d',bs,e1,r1⟩:=(bq ra).2 i u hi;have hm:=Gx e1;refine Ge (ih r1 (hx d' hm) fun b=>?_);cases b with
    | true =>
     simp only [Jb,Hc,HP];exact Gi ⟨rfl,rfl,fun y hy=>hall y (Gp _ hy)⟩
    | false =>
     simp only [Bool.not_false,Im];exact Gi (Gi (q _))
   ·rintro ⟨r1,r2⟩ s' ⟨hr,rfl,_⟩;simp only at hr;subst hr;exact Gi (q _)
  | _=>cases h
theorem xG {x:Value} {d:PyData} {as:List Addr} {ys:List Value} {Q:Bool->Shared->Prop} (r:Reads s.heap x d as) (h:kyB d=true) (hy:∀ y∈ys,∃ k bs,Reads s.heap y k bs/\kyB k=true) (q:Q false s) :
  wpAny (model P w) A (searchCouldBeSeen x ys) Q E s:=by
 have h3:=aX.mp h;unfold searchCouldBeSeen;refine Ge (IX _ (fun rest r s'=>r.1=none/\s'=s/\∀ u∈rest,u∈ys) _ ?_ ?_ _ _ ⟨rfl,rfl,fun _ z=>z⟩)
 ·rintro u rest b s' ⟨hr,rfl,hall⟩;obtain ⟨k,bs,r1,k1⟩:=hy u (hall u Gm);have k3:=aX.mp k1;have keep:∀ y∈rest,y∈ys:=fun y hy=>hall y (Gp _ hy);refine D0 (Gi ⟨rfl,rfl,keep⟩) ?_;refine Ge (qk 8 r h3.1 (by omega) ?_);simp only [Jb,Hc,HP];refine Ge (qk 8 r1 k3.1 (by omega) ?_);simp only [Jb,Hc,HP];refine Ge (x6 8 r h3.1 (by omega) ?_);simp only [Hc,HP];refine Ge (x6 8 r1 k3.1 (by omega) ?_);simp only [Hc,HP];exact Gi ⟨rfl,rfl,keep⟩
 ·rintro ⟨r1,r2⟩ s' ⟨hr,rfl,_⟩;simp only at hr;subst hr;exact Gi q
end
structure EnD (w:World) (h0:Heap) (pv:Value->PyData->Prop) (es:Array (Int×Value)) (zs:List PyData):Prop where
 len:es.toList.length=zs.length
 nd:zs.Nodup
 at_:∀ (i:Nat) (e:Int×Value) (z:PyData),es.toList[i]?=some e->zs[i]?=some z->kyB z=true/\Bk z=true/\e.1=aI w z/\∃ as,Reads h0 e.2 z as
 vl:∀ (i:Nat) (e:Int×Value) (z:PyData),es.toList[i]?=some e->zs[i]?=some z->pv e.2 z
theorem uf {h:Heap} {v:Value} {d:PyData} {as:List Addr} (r:Reads h v d as) (t:Bk d=true):∃ a,v=.ref a:=by
 cases r with
 | tuple _ _ _ _=>exact ⟨_,rfl⟩
 | _=>cases t
theorem Tb.fits {t:SetTable} {hs:List Int} (T:Tb t hs) {n:Nat} (h:hs.length=n):t.fits n=true:=by
 unfold SetTable.fits;rw [GY];have l:=T.len;have f:=T.fil;rw [GN] at l f;exact ⟨by simpa using l.trans h,by unfold SetTable.fill;rw [T.nd];simpa using f⟩
theorem M3.odd {t:SetTable} (h:M3 t.mask):t.gaveWay=false:=by
 unfold SetTable.gaveWay;rcases h with e | e | e | e <;> rw [e] <;> rfl
section
variable {P:Program} {w:World} {A:Around} {E:Value->Shared->Prop} {s:Shared}
theorem sQ {pv:Value->PyData->Prop} {h0:Heap} {a:Addr} {ob:Obj} {es:Array (Int×Value)} {ep:Nat} {t:SetTable} {zs:List PyData} {x:Value} {d:PyData} {as:List Addr} {Q:SetFound->Shared->Prop} {n0:Nat}
  (kp:∀ b o,h0.get? b=some o->s.heap.get? b=some o) (ho:s.heap.get? a=some ob) (hd:ob.data=.set es ep t) (T:Tb t (es.toList.map (·.1))) (N:EnD w h0 pv es zs) (hx:Reads h0 x d as) (hk:kyB d=true) (hu:A.units+6 < cLine)
  (h1:(pn t.mask (aI w d) n0).j ∉ t.place.toList) (h2:∀ m,m < n0->(pn t.mask (aI w d) m).j∈t.place.toList) (h3:n0 < 10*turns t.mask)
  (qy:d∈zs->Q (.there none) s) (qn:d ∉ zs->Q (.free (pn t.mask (aI w d) n0).j false) s) :
  ∀ (k n fuel:Nat) (st:Option Probe),n0 - n=k->n<=n0->k < fuel->st.getD (t.probeStart (aI w d))=pn t.mask (aI w d) n->(∀ (m i:Nat),m < n->t.place.toList[i]?=some (pn t.mask (aI w d) m).j->zs[i]?≠some d) ->
   wpAny (model P w) A (setSearchFrom a x (aI w d) true fuel st) Q E s:=by
 have hlen:es.toList.length=t.place.toList.length:=by rw [T.len,Gg]
 have fit:t.fits es.size=true:=T.fits (by rw [Gg,GN]);have hxs:Reads s.heap x d as:=IJ kp hx;intro k;induction k using Nat.strongRecOn with
 | _ k ih =>
  intro n fuel st hk0 hn hf hst hb;obtain ⟨fuel,rfl⟩:∃ f,fuel=f+1:=⟨fuel - 1,by omega⟩;unfold setSearchFrom;refine Ge (HH ho hd fit ?_);dsimp only;rw [M3.odd T.ms];simp only [Hc,HP];rw [hst];have sp:=T.nY (f:=fun i=>(es[i]?.map (·.1)).getD 0) h1 h2 (10*turns t.mask) n hn (by omega);generalize hX:SetTable.probe t _ (aI w d) (pn t.mask (aI w d) n)=X;rcases sp with ⟨e,q⟩ | ⟨m,i,m1,m2,m3,m4,m5,m6⟩
  ·have eX:X=some (.empty (pn t.mask (aI w d) n0).j none):=hX.symm.trans e;subst eX;dsimp only;refine Gi (qn fun hm=>?_);obtain ⟨i,hi⟩:=Hb.mp hm;have il:i < zs.length:=(Gh.mp hi).1;have ie:i < es.toList.length:=by rw [N.len];exact il
   obtain ⟨_,_,z3,_⟩:=N.at_ i _ _ (Gd ie) hi;have ip:=Gd (show i < t.place.toList.length by rw [<- hlen];exact ie);obtain ⟨m,a1,a2⟩:=T.met h1 ip (h:=aI w d) (by rw [GB,Gd ie];exact congrArg some z3);rw [<- a2] at ip;by_cases z:m < n
   ·exact hb m i z ip hi
   ·refine q m i (by omega) a1 ip ?_;show (es[i]?.map (·.1)).getD 0=_;rw [<- Hz,Gd ie];exact z3
  ·have eX:X=some (.candidate (pn t.mask (aI w d) m).j i (pn t.mask (aI w d) (m+1))):=hX.symm.trans m5;subst eX;dsimp only;have ip:i < t.place.toList.length:=(Gh.mp m3).1;have ie:i < es.toList.length:=by rw [hlen];exact ip
   have iz:i < zs.length:=by rw [<- N.len];exact ie
   obtain ⟨z1,z2,z3,bs,z4⟩:=N.at_ i _ _ (Gd ie) (Gd iz);have z5:Reads s.heap es.toList[i].2 zs[i] bs:=IJ kp z4;have ei:es[i]?=some es.toList[i]:=by rw [<- Hz,Gd ie]
   have rest:wpAny (model P w) A (do
     let equal<-holding [es.toList[i].2] (eqBool es.toList[i].2 x)
     let (es',_,t')<-setState a
     if true&&equal then return SetFound.there none
     let some sme:=t'.sameMemory t.moves t.mask | unsupported "set.changed-during-lookup:is-the-new-block-at-the-old-address"
     let still<-match (if sme then t'.slot (pn t.mask (aI w d) m).j else .empty) with
      | .live i'=>match es'[i']? with
       | some (_,y')=>do pure (if<-isSame y' es.toList[i].2 then some i' else none)
       | none=>pure none
      | _=>pure none
     match still with
     | none=>rule "set.search.anew"; setSearchFrom a x (aI w d) true fuel none
     | some i'=>if equal then return SetFound.there (some i') else setSearchFrom a x (aI w d) true fuel (some (pn t.mask (aI w d) (m+1)))) Q E s:=by
    refine Ge (Hv (Dc hu hxs z5 hk z1 P w _ _ ?_));refine Ge (HH ho hd fit ?_);dsimp only;by_cases he:zs[i]=d
    ·rw [(f7 _ _ (aX.mp z1).1 (aX.mp hk).1).mpr he];simp only [Bool.and_self,Im];exact Gi (qy (he▸IH iz))
    ·have hne:PyData.eqv zs[i] d=false:=Bool.eq_false_iff.mpr fun z=>he ((f7 _ _ (aX.mp z1).1 (aX.mp hk).1).mp z);rw [hne];simp only [Bool.and_false,Hc,HP];have sm:t.sameMemory t.moves t.mask=some true:=by unfold SetTable.sameMemory;rw [Gs (by simp)]
     rw [sm];dsimp only;rw [Gs rfl,jV T.ris m3];dsimp only;rw [ei];dsimp only;obtain ⟨b,hbv⟩:=uf z5 z2;rw [hbv];refine Ge ?_;unfold isSame;simp only [HM,Im];refine Gi (Ge (Gi ?_));rw [Gs rfl];dsimp only;refine ih (n0 - (m+1)) (by omega) (m+1) fuel _ rfl (by omega) (by omega) rfl fun m' i' a1 a2 a3=>?_;by_cases y:m' < n
     ·exact hb m' i' y a2 a3
     ·by_cases y2:m'=m
      ·subst y2;have:i'=i:=by rw [<- cJ T.ris a2,<-cJ T.ris m3]
       subst this;rw [Gd iz] at a3;injection a3 with a3;exact he a3
      ·refine m6 m' i' (by omega) (by omega) a2 ?_;have iz':i' < zs.length:=(Gh.mp a3).1;have ie':i' < es.toList.length:=by rw [N.len];exact iz'
       obtain ⟨_,_,w3,_⟩:=N.at_ i' _ _ (Gd ie') a3;show (es[i']?.map (·.1)).getD 0=_;rw [<- Hz,Gd ie'];exact w3
   have hstore:∀ y∈(es.filter (·.1==aI w d)).toList.map (·.2),∃ k bs,Reads s.heap y k bs/\kyB k=true:=by
    intro y hy;obtain ⟨e,he,rfl⟩:=GO.mp hy;have he:e∈es.toList:=by
     have:=Array.mem_toList_iff.mp he;exact Array.mem_toList_iff.mpr (Array.mem_filter.mp this).1
    obtain ⟨q,hq⟩:=Hb.mp he;have qz:q < zs.length:=by rw [<- N.len];exact (Gh.mp hq).1
    obtain ⟨w1,_,_,cs,w4⟩:=N.at_ q _ _ hq (Gd qz);exact ⟨_,cs,IJ kp w4,w1⟩
   rw [ei];dsimp only;split
   ·refine Ge (xG hxs hk hstore ?_);simp only [Hc,HP];exact rest
   ·exact rest
end
open PySem PySem.Spec PyProof.Rows PySem.SetTable
noncomputable def txB:PyData->Bool
 | .tuple ds=>ds.any fun d=>match d with | .str _=>true | _=>false
 | _=>false
theorem yw {d:PyData} (h:txB d=true):Bk d=true:=by
 cases d <;> first | rfl | cases h
noncomputable def bT (ds:List PyData) (d:PyData):List PyData:=if (ds.any fun e=>PyData.eqv e d)=true then ds else ds++[d]
theorem vE {ds:List PyData} {d:PyData} (h:∀ e∈ds,kyB e=true) (hk:kyB d=true):(ds.any fun e=>PyData.eqv e d)=true↔d∈ds:=by
 rw [List.any_eq_true];constructor
 ·rintro ⟨e,he,q⟩;have:=(f7 _ _ (aX.mp (h e he)).1 (aX.mp hk).1).mp q;exact this▸he
 ·intro hd;exact ⟨d,hd,(f7 _ _ (aX.mp hk).1 (aX.mp hk).1).mpr rfl⟩
theorem tV {α β:Type} (f:α->β) (xs:List α) (p:Nat) (x:α):(iG xs p x).map f=iG (xs.map f) p (f x):=by
 unfold iG;rw [Hi,List.map_cons,List.map_take,List.map_drop]
theorem jT {α:Type} (xs:List α) (p:Nat) (x:α):(iG xs p x).Perm (x :: xs):=by
 unfold iG;refine List.perm_middle.trans ?_;rw [IW]
theorem iT {α:Type} {xs:List α}:∀ {l:List Nat},(∀ i∈l,i < xs.length)->∀ i:Nat,(l.filterMap (xs[·]?))[i]?=(l[i]?).bind (xs[·]?)
 | [],_,i=>by simp
 | k :: l,h,i=>by
  have hk:=h k Gm;rw [List.filterMap_cons_some (Gd hk)];cases i with
  | zero=>simp [hk]
  | succ i=>simpa using iT (fun j hj=>h j (Gp _ hj)) i
theorem d4 {α:Type} {xs:List α}:∀ {l:List Nat},(∀ i∈l,i < xs.length)->(l.filterMap (xs[·]?)).length=l.length
 | [],_=>rfl
 | k :: l,h=>by
  have hk:=h k Gm;rw [List.filterMap_cons_some (Gd hk),GH,GH,d4 fun j hj=>h j (Gp _ hj)]
theorem nv {α:Type} (xs:List α):(List.range xs.length).filterMap (xs[·]?)=xs:=by
 have h:=PySem.W.krv_all xs.toArray;rw [Gw] at h;simpa using h
theorem jC {α:Type} {xs:List α} {l:List Nat} (h:l.Perm (List.range xs.length)):(l.filterMap (xs[·]?)).Perm xs:=by
 have:=h.filterMap (xs[·]?)
 rwa [nv] at this
def pT (w:World) (h0:Heap) (pv:Value->PyData->Prop) (h:Heap) (a:Addr) (ds:List PyData):Prop :=
 ∃ ob es ep t zs,h.get? a=some ob/\ob.ExactSet/\ob.data=.set es ep t/\Tb t (es.toList.map (·.1))/\EnD w h0 pv es zs/\zs.Perm ds/\t.led=!dU w/\(es.size≠0->t.plain=false)/\t.place.toList.length*5 < t.mask*3
section
variable {P:Program} {w:World} {A:Around} {E:Value->Shared->Prop} {s:Shared}
theorem DF {d:PyData} {v:Value} {as:List Addr} {n:Nat} {Q:Bool->Shared->Prop} (r:Reads s.heap v d as) (h:hkB d=true) (ht:txB d=true) (q:Q false s):wpAny (model P w) A (hashByValue (n+1) v) Q E s:=by
 cases r with
 | @tuple a o vs k xs as ho hc hdt ra =>
  have hT:s.TypeIs (.ref a) "tuple" := ⟨o,ho,hc⟩;unfold hashByValue;refine Ge (Io hT F.slot_tuple_hash.lookup ?_);dsimp only;refine Ge (Jh ho hdt ?_);refine Ge ?_;show wpAny _ _ (forIn vs _ _) _ _ s;rw [<- Jk];have hx:=cU.mp h;have hS:∃ u∈vs.toList,∃ y t,u=Value.str y t:=by
   obtain ⟨e,he,ht⟩:=List.any_eq_true.mp ht;obtain ⟨i,hi⟩:=Hb.mp he;have hl:=(bq ra).1;have iv:i < vs.toList.length:=by rw [hl];exact (Gh.mp hi).1
   obtain ⟨d',bs,e1,r1⟩:=(bq ra).2 i _ (Gd iv);rw [hi] at e1;cases e1;refine ⟨_,IH iv,?_⟩;cases e with
   | str y=>exact ⟨y,qm r1⟩
   | _=>cases ht
  refine IX _ (fun rest r s'=>r.1=none/\s'=s/\(∀ u∈rest,u∈vs.toList)/\∃ u∈rest,∃ y t,u=Value.str y t) _ ?_ ?_ _ _ ⟨rfl,rfl,fun _ z=>z,hS⟩
  ·rintro u rest r s' ⟨hr,rfl,hall,hS⟩;obtain ⟨i,hi⟩:=Hb.mp (hall u Gm);obtain ⟨d',bs,e1,r1⟩:=(bq ra).2 i u hi;have hm:=Gx e1;obtain ⟨u2,hu2,y,t,rfl⟩:=hS;rcases Gv.mp hu2 with rfl | hu2
   ·refine Ge (m:=hashByValue n (.str y t)) (wpAny_of_eq (by cases n <;> rfl) (Gi ?_));simp only [Bool.not_false,Im];first | exact Gi (Gi q) | exact Gi q
   ·refine Ge (Dx n r1 (hx d' hm) fun b=>?_);cases b with
    | true =>
     simp only [Jb,Hc,HP];exact Gi ⟨rfl,rfl,fun y hy=>hall y (Gp _ hy),_,hu2,y,t,rfl⟩
    | false =>
     simp only [Bool.not_false,Im];first | exact Gi (Gi q) | exact Gi q
  ·rintro ⟨r1,r2⟩ s' ⟨hr,rfl,_,u,hu,_⟩;cases hu
 | _=>cases ht
theorem EnD.ins {pv:Value->PyData->Prop} {h0:Heap} {es:Array (Int×Value)} {zs:List PyData} (N:EnD w h0 pv es zs) {x:Value} {d:PyData} {as:List Addr} {p:Nat} (hp:p<=zs.length) (hn:d ∉ zs) (hk:kyB d=true) (ht:Bk d=true) (hx:Reads h0 x d as) (hpv:pv x d) :
  EnD w h0 pv (insertAt es p (aI w d,x)) (iG zs p d) where
 len:=by rw [aP,cR (by rw [N.len];exact hp),cR hp,N.len]
 nd:=(jT zs p d).nodup_iff.mpr (Hu.mpr ⟨hn,N.nd⟩)
 at_:=fun i e z he hz=>by
  rw [aP,cS (by rw [N.len];exact hp)] at he;rw [cS hp] at hz;split at he
  ·rename_i c;rw [Gs c] at hz;exact N.at_ i e z he hz
  ·rename_i c;rw [Gy c] at hz;split at he
   ·rename_i c2;rw [Gs c2] at hz;cases he;cases hz;exact ⟨hk,ht,rfl,as,hx⟩
   ·rename_i c2;rw [Gy c2] at hz;exact N.at_ _ e z he hz
 vl:=fun i e z he hz=>by
  rw [aP,cS (by rw [N.len];exact hp)] at he;rw [cS hp] at hz;split at he
  ·rename_i c;rw [Gs c] at hz;exact N.vl i e z he hz
  ·rename_i c;rw [Gy c] at hz;split at he
   ·rename_i c2;rw [Gs c2] at hz;cases he;cases hz;exact hpv
   ·rename_i c2;rw [Gy c2] at hz;exact N.vl _ e z he hz
theorem EnD.perm {pv:Value->PyData->Prop} {h0:Heap} {es es':Array (Int×Value)} {zs:List PyData} (N:EnD w h0 pv es zs) {l:List Nat} (hl:l.Perm (List.range zs.length)) (e:es'.toList=l.filterMap (es.toList[·]?)):EnD w h0 pv es' (l.filterMap (zs[·]?)):=by
 have b1:∀ i∈l,i < zs.length:=fun i hi=>by simpa using hl.mem_iff.mp hi
 have b2:∀ i∈l,i < es.toList.length:=fun i hi=>by rw [N.len];exact b1 i hi
 refine ⟨by rw [e,d4 b2,d4 b1],(jC hl).nodup_iff.mpr N.nd,fun i x z hx hz=>?_,fun i x z hx hz=>?_⟩
 all_goals
  rw [e,iT b2] at hx;rw [iT b1] at hz;obtain ⟨k,k1,k2⟩:=Option.bind_eq_some_iff.mp hx;rw [k1] at hz
 ·exact N.at_ k x z k2 hz
 ·exact N.vl k x z k2 hz
theorem vj {pv:Value->PyData->Prop} {h0:Heap} {a:Addr} {ob:Obj} {es:Array (Int×Value)} {ep:Nat} {t:SetTable} {zs:List PyData} {wanted:Nat} {Q:Unit->Shared->Prop} (ho:s.heap.get? a=some ob) (hx:ob.ExactSet) (hd:ob.data=.set es ep t) (T:Tb t (es.toList.map (·.1))) (N:EnD w h0 pv es zs)
  (hm:M3 (sizeAbove wanted - 1)) (hl:es.size<=sizeAbove wanted - 1) (hf:es.size*5 < (sizeAbove wanted - 1)*3)
  (q:∀ es' ep' t' zs' ob',(s.heap.update a (Obj.putSet es' t')).get? a=some ob'->ob'.ExactSet->ob'.data=.set es' ep' t'->Tb t' (es'.toList.map (·.1))->EnD w h0 pv es' zs'->zs'.Perm zs->t'.led=t.led->t'.plain=t.plain->t'.place.toList.length*5 < t'.mask*3->Q () { s with heap:=s.heap.update a (Obj.putSet es' t') }) :
  wpAny (model P w) A (setRelay a wanted) Q E s:=by
 have hsz:es.toList.length=es.size:=GN;have fit:t.fits es.size=true:=T.fits (by rw [Gg,hsz]);obtain ⟨t',od,r1,r2,r3,r4,r5⟩:=qo t (hs:=es.toList.map (·.1)) hm (by rw [Gg,hsz];exact hl);rw [Gg] at r2;have ea:es.map (·.1)=(es.toList.map (·.1)).toArray:=by rw [<- Array.toList_map,Jd]
 rw [<- ea] at r1;have m127:sizeAbove wanted<=512:=by
  unfold M3 at hm;omega
 have el:(od.filterMap (es[·]?)).toList=od.toList.filterMap (es.toList[·]?):=by
  rw [Array.toList_filterMap];congr 1;funext i;simp
 have sz':(od.filterMap (es[·]?)).size=es.size:=by
  rw [<- GN,el,d4 (fun i hi=>by simpa using r2.mem_iff.mp hi),r2.length_eq,Hf,hsz]
 unfold setRelay;refine Ge (HH ho hd fit ?_);dsimp only;rw [Gy (by rw [Hm];omega)];rw [r1]
 show wpAny (model P w) A ((do
  let es':=od.filterMap (es[·]?)
  if es'.size != es.size then unsupported "internal:set-table-lost-an-element"
  pure (es',t'))>>=_) Q E s
 refine Ge ?_;dsimp only;rw [Gy (by simp [sz'])];refine Gi ?_;dsimp only;refine wpAny_storeSet_of ho hd ?_ (by rw [sz',Hm];omega);have hg:(s.heap.update a (Obj.putSet (od.filterMap (es[·]?)) t')).get? a=some { ob with data:=.set (od.filterMap (es[·]?)) (ep+1) t' }:=by
  have q:=HU (Obj.putSet (od.filterMap (es[·]?)) t') ho (by rw [putSet_of _ t' hd];rfl);rw [putSet_of _ t' hd] at q;exact q
 have zl:zs.length=es.toList.length:=N.len.symm;refine q _ (ep+1) t' _ _ hg hx rfl ?_ (N.perm (by rw [zl];exact r2) el) (jC (by rw [zl];exact r2)) r4 r5 ?_
 ·rw [el,List.map_filterMap];have:(fun i:Nat=>(es.toList[i]?).map fun x:Int×Value=>x.1)=fun i:Nat=>(es.toList.map fun x:Int×Value=>x.1)[i]?:=by
   funext i;rw [GB]
  rw [this];exact r3
 ·have l:=r3.len;rw [d4 (fun i hi=>by rw [Gg];simpa using r2.mem_iff.mp hi),r2.length_eq,Hf,hsz] at l;have mk:t'.mask=sizeAbove wanted - 1:=by
   unfold relaid laid at r1;cases hc:layClean (sizeAbove wanted - 1) (es.map (·.1)) with
   | none=>rw [hc] at r1;cases r1
   | some ow =>
    rw [hc] at r1;simp only [Option.bind_eq_bind,Option.bind_some,Option.pure_def,Jo,Prod.mk.injEq] at r1;rw [<- r1.1]
  rw [l,mk];exact hf
end
open PySem PySem.Spec PyProof.Rows PySem.SetTable
theorem EnD.ky {w:World} {pv:Value->PyData->Prop} {h0:Heap} {es:Array (Int×Value)} {zs:List PyData} (N:EnD w h0 pv es zs):∀ z∈zs,kyB z=true:=fun z hz=>by
 obtain ⟨i,hi⟩:=Hb.mp hz;have ie:i < es.toList.length:=by rw [N.len];exact (Gh.mp hi).1
 exact (N.at_ i _ z (Gd ie) hi).1
section
variable {P:Program} {w:World} {A:Around} {E:Value->Shared->Prop} {s:Shared}
theorem wZ {h:Heap} {a:Addr} {ob:Obj} {es es':Array (Int×Value)} {ep:Nat} {t t':SetTable} (ho:h.get? a=some ob) (hd:ob.data=.set es ep t):(h.update a (Obj.putSet es' t')).get? a=some { ob with data:=.set es' (ep+1) t' }:=by
 have q:=HU (Obj.putSet es' t') ho (by rw [putSet_of es' t' hd];rfl);rw [putSet_of es' t' hd] at q;exact q
theorem Tb.rN {t:SetTable} {hs:List Int} (T:Tb t hs):Tb { t with plain:=false } hs:=⟨T.ms,T.nd,T.len,T.ris,T.le,T.fil,T.pr⟩
theorem Cc {pv:Value->PyData->Prop} {h0:Heap} {a:Addr} {ds:List PyData} {x:Value} {d:PyData} {as:List Addr} {Q:Bool->Shared->Prop} (kp:∀ b o,h0.get? b=some o->s.heap.get? b=some o) (hS:pT w h0 pv s.heap a ds) (hx:Reads h0 x d as) (hk:kyB d=true) (ht:txB d=true) (hpv:pv x d) (hu:A.units+6 < cLine) (room:ds.length < 300)
  (h:∀ b h',Heap.SameBut a s.heap h'->pT w h0 pv h' a (bT ds d)->Q b { s with heap:=h' }) :
  wpAny (model P w) A (setAddHashed a x (aI w d)) Q E s:=by
 obtain ⟨ob,es,ep,t,zs,ho,hex,hd,T,N,pm,led,pln,nf⟩:=hS;have hsz:es.toList.length=es.size:=GN;have fit:t.fits es.size=true:=T.fits (by rw [Gg,hsz]);have tp:=yw ht;have hxs:Reads s.heap x d as:=IJ kp hx;obtain ⟨r,hr⟩:=uf hx tp;have zl:zs.length=es.size:=by rw [<- N.len,hsz]
 have pl:t.place.toList.length=es.size:=by rw [T.len,Gg,hsz]
 have el:ds.length=es.size:=by rw [<- pm.length_eq,zl]
 have hmem:(ds.any fun e=>PyData.eqv e d)=true↔d∈zs:=(vE (fun e he=>N.ky e (pm.mem_iff.mpr he)) hk).trans pm.mem_iff.symm;obtain ⟨n0,f1,f2,f3⟩:=T.first (aI w d);have nsc:byScan x es=false:=by rw [hr];rfl
 unfold setAddHashed setAddHashedIn;refine Hv (Ge (HH ho hd fit ?_));dsimp only;rw [nsc];simp only [Hc,HP];unfold setSearch;have t3:t.mask<=511:=by have:=T.ms;unfold M3 at this;omega
 refine Ge (sQ kp ho hd T N hx hk hu f2 f3 f1 (fun hy=>?_) (fun hn=>?_) (n0 - 0) 0 100000 none rfl (Hn _) (by unfold turns at f1;omega) rfl fun m i hm=>by omega)
 ·dsimp only;refine Gi ?_;have q:=h false s.heap (Heap.SameBut.refl a s.heap) ⟨ob,es,ep,t,zs,ho,hex,hd,T,N,by unfold bT;rw [Gs (hmem.mpr hy)];exact pm,led,pln,nf⟩;cases s;exact q
 ·dsimp only;refine Ge (HH ho hd fit ?_);dsimp only;have ea:bT ds d=ds++[d]:=by unfold bT;rw [Gy (fun z=>hn (hmem.mp z))]
  have hf1:t.place.toList.length+1<=t.mask:=by have:=T.ms;unfold M3 at this;omega
  obtain ⟨T1,hp⟩:=T.put f2 f3 hf1;generalize hpt:t.put (pn t.mask (aI w d) n0).j=PT at T1 hp;have hled:PT.1.led=t.led:=by rw [<- hpt];rfl
  have hplain:PT.1.plain=t.plain:=by rw [<- hpt];rfl
  have hmask:PT.1.mask=t.mask:=by rw [<- hpt];rfl
  obtain ⟨t1,p⟩:=PT;dsimp only at T1 hp hled hplain hmask ⊢;rw [Gg,hsz] at hp;have hp2:p<=zs.length:=by rw [zl];exact hp
  have N1:=N.ins (x:=x) (p:=p) hp2 hn hk tp hx hpv;have e1:((insertAt es p (aI w d,x)).toList.map (·.1))=iG (es.toList.map (·.1)) p (aI w d):=by rw [aP,tV]
  rw [<- e1] at T1;have sz1:(insertAt es p (aI w d,x)).size=es.size+1:=by rw [<- GN,aP,cR (by rw [hsz];exact hp),hsz]
  have pl1:t1.place.toList.length=es.size+1:=by rw [T1.len,Gg,GN,sz1]
  have pm1:(iG zs p d).Perm (bT ds d):=by
   rw [ea];exact (jT zs p d).trans ((pm.cons d).trans (List.perm_append_singleton d ds).symm)
  have go:∀ t2:SetTable,Tb t2 ((insertAt es p (aI w d,x)).toList.map (·.1))->t2.led=t.led->t2.plain=false->t2.mask=t.mask->t2.place=t1.place->t2.fill=es.size+1 ->
    wpAny (model P w) A (do
     storeSet a (insertAt es p (aI w d,x)) t2
     if (!false&&t2.tooFull)=true then do
       setRelay a (SetTable.grown (es.size+1))
       return true
      else return true) Q E s:=by
   intro t2 T2 l2 p2 m2 q2 fl2;refine Ge (wpAny_storeSet_of ho hd ?_ (by rw [sz1,Hm];omega));have g1:=wZ (es':=insertAt es p (aI w d,x)) (t':=t2) ho hd;have sb:=Heap.SameBut.update s.heap a (Obj.putSet (insertAt es p (aI w d,x)) t2);have pl2:t2.place.toList.length=es.size+1:=by rw [q2];exact pl1
   have m3:=T.ms;split
   ·rename_i tf;have tf:(t2.fill*5>=t2.mask*3):=by simpa [SetTable.tooFull] using tf
    rw [fl2,m2] at tf;have cs:(t.mask=7/\es.size+1=5)\/(t.mask=31/\es.size+1=19)\/(t.mask=127/\es.size+1=77):=by
     unfold M3 at m3;omega
    have a1:sizeAbove (SetTable.grown 5)=32:=by decide
    have a2:sizeAbove (SetTable.grown 19)=128:=by decide
    have a3:sizeAbove (SetTable.grown 77)=512:=by decide +kernel
    have mm:M3 (sizeAbove (SetTable.grown (es.size+1)) - 1):=by
     rcases cs with ⟨_,e⟩ | ⟨_,e⟩ | ⟨_,e⟩ <;> rw [e]
     ·rw [a1];exact .inr (.inl rfl)
     ·rw [a2];exact .inr (.inr (.inl rfl))
     ·rw [a3];exact .inr (.inr (.inr rfl))
    have mb:(es.size+1)*5 < (sizeAbove (SetTable.grown (es.size+1)) - 1)*3:=by
     rcases cs with ⟨_,e⟩ | ⟨_,e⟩ | ⟨_,e⟩ <;> rw [e]
     ·rw [a1];decide
     ·rw [a2];decide
     ·rw [a3];decide
    refine Ge (vj (s:={ s with heap:=s.heap.update a (Obj.putSet (insertAt es p (aI w d,x)) t2) }) g1 hex rfl T2 N1 mm (by rw [sz1];omega) (by rw [sz1];exact mb) fun es' ep' t' zs' ob' b1 b2 b3 b4 b5 b6 b7 b8 b9=>?_);refine Gi (h true _ (sb.trans (Heap.SameBut.update _ a _)) ⟨ob',es',ep',t',zs',b1,b2,b3,b4,b5,b6.trans pm1,?_,fun _=>?_,b9⟩)
    ·rw [b7,l2];exact led
    ·rw [b8];exact p2
   ·rename_i tf;have tf:¬(t2.fill*5>=t2.mask*3):=by simpa [SetTable.tooFull] using tf
    rw [fl2,m2] at tf;exact Gi (h true _ sb ⟨_,_,_,t2,_,g1,hex,rfl,T2,N1,pm1,by rw [l2];exact led,fun _=>p2,by rw [pl2,m2];omega⟩)
  have fl1:t1.fill=es.size+1:=by
   unfold SetTable.fill;rw [T1.nd,<-GN,pl1];rfl
  split
  ·refine Ge ?_;refine DF (n:=7) hxs (aX.mp hk).1 ht ?_;simp only [Hc,HP];exact go { t1 with plain:=false } T1.rN hled rfl hmask rfl fl1
  ·rename_i npl;have npl:t1.plain=false:=by simpa using npl
   refine Ge (Gi ?_);simp only [Im];exact go t1 T1 hled npl hmask rfl fl1
end
open PySem PySem.Spec PyProof.Rows
noncomputable def nz (val:Nat->PyData) (i:Nat):List PyData:=((List.range i).map val).foldl bT []
theorem oD (val:Nat->PyData) (i:Nat):nz val (i+1)=bT (nz val i) (val i):=by
 unfold nz;rw [List.range_succ,Hi,List.foldl_append];rfl
theorem i7:∀ (ds acc:List PyData),(ds.foldl bT acc).length<=acc.length+ds.length
 | [],acc=>Gu _
 | d :: ds,acc=>by
  have ih:=i7 ds (bT acc d);have:(bT acc d).length<=acc.length+1:=by
   unfold bT;split
   ·omega
   ·simp
  rw [HR,GH];omega
theorem c5:∀ (ds acc:List PyData),acc.length<=(ds.foldl bT acc).length
 | [],acc=>Gu _
 | d :: ds,acc=>by
  have ih:=c5 ds (bT acc d);have:acc.length<=(bT acc d).length:=by
   unfold bT;split
   ·omega
   ·simp
  rw [HR];omega
theorem vn {val:Nat->PyData} {n i:Nat} (h:i<=n):(nz val i).length<=(nz val n).length:=by
 have e:List.range n=List.range i++(List.range (n - i)).map (i+·):=by
  rw [<- List.range_add,show i+(n - i)=n by omega]
 unfold nz;rw [e,Hi,List.foldl_append];exact c5 _ _
section
variable {P:Program} {w:World} {A:Around} {E:Value->Shared->Prop} {s:Shared}
theorem ya:∀ (n:Nat) {A:Around} {s:Shared} {E:Value->Shared->Prop} {d:PyData} {v:Value} {as:List Addr} {Q:Int->Shared->Prop},Reads s.heap v d as->hkB d=true->d.depth<=n->A.units+n < cLine ->
  (∀ t,s.toks<=t->Q (aI w d) { s with toks:=t })->wpAny (model P w) A (pyHash v) Q E s:=by
 intro n;induction n with
 | zero =>
  intro A s E d v as Q r h hd hu q;cases r with
  | int i t=>exact wpAny_pyHash_int (q _ (HW _))
  | str x t=>exact wpAny_pyHash_str (q _ (HW _))
  | tuple _ _ _ _=>rw [PyData.depth] at hd;omega
  | _=>cases h
 | succ n ih =>
  intro A s E d v as Q r h hd hu q;cases r with
  | int i t=>exact wpAny_pyHash_int (q _ (HW _))
  | str x t=>exact wpAny_pyHash_str (q _ (HW _))
  | @tuple a o vs k xs as ho hc hdt ra =>
   have hT:s.TypeIs (.ref a) "tuple" := ⟨o,ho,hc⟩;have hx:=cU.mp h;unfold pyHash;first | unfold pyHashByItsType | skip
   first | refine Ge (wpAny_cRoomFor_or (.inr (by omega)) ?_) | skip
   refine Ge (Io hT F.slot_tuple_hash.lookup ?_);show wpAny _ _ (if (some (Value.builtin "tuple.__hash__")==some Value.none)=true then _ else _) Q E s;rw [Gy (by rw [beq_builtin_none];exact GV)];refine Ge (Io hT F.slot_tuple_hash.lookup ?_);show wpAny _ _ (callSpecialIfBoundUnlessNone? (.ref a) "__hash__" _>>=_) Q E s;refine Ge (wpAny_callSpecialIfBoundUnlessNone?_slot hT F.slot_tuple_hash (H9 F.slot_tuple_hash hT F.entry_tuple_hash ?_ (F.args_tuple_hash_1 _)));show wpAny _ _ (Builtin.Tuple.tupleItemsOf (.ref a)>>=_) _ _ s;refine Ge (wpAny_tupleItemsOf ho hdt (Ge ?_));rw [<- Jk];have hap:∀ (l m:List PyData),bV w (l++m)=bV w l++bV w m:=by
    intro l m;induction l with
    | nil=>rfl
    | cons x l ihl=>rw [List.cons_append,bV,bV,ihl];rfl
   refine IX _ (fun rest (b:Array Int) s'=>∃ i,rest=vs.toList.drop i/\b.toList=bV w (xs.take i)/\∃ t,s.toks<=t/\s'={ s with toks:=t }) _ ?_ ?_ _ _ ⟨0,rfl,rfl,s.toks,Gu _,rfl⟩
   ·rintro u rest b s' ⟨i,hr,hb,t,le,rfl⟩;have hi:vs.toList[i]?=some u:=by
     have:(vs.toList.drop i)[0]?=some u:=by rw [<- hr];rfl
     simpa using this
    obtain ⟨d',bs,e1,r1⟩:=(bq ra).2 i u hi;have hm:=Gx e1;refine Ge (ih (s:={ s with toks:=t }) r1 (hx d' hm) (by have:=gc hm;omega) (by have:A.in1.units=A.units+1:=rfl;omega) fun t' le'=>?_);have nx:rest=vs.toList.drop (i+1)/\(b.push (aI w d')).toList=bV w (xs.take (i+1))/\∃ t'',s.toks<=t''/\({ s with toks:=t' }:Shared)={ s with toks:=t'' }:=by
     refine ⟨?_,?_,t',GU le le',rfl⟩
     ·have:=congrArg List.tail hr;simpa [List.tail_drop] using this
     ·rw [List.take_add_one,e1,hap,IV,hb];rfl
    first
     | exact Gi ⟨i+1,nx⟩
     | exact Ge (Gi (Gi ⟨i+1,nx⟩))
   ·rintro b s' ⟨i,hr,hb,t,le,rfl⟩;have hi:vs.toList.length<=i:=by
     have:=congrArg List.length hr;simp at this;simpa using (by omega:vs.size<=i)
    rw [Hw (by rw [<- (bq ra).1];exact hi)] at hb;show wpAny _ _ (retInt (Builtin.Tuple.tupleHashOf b.toList)) _ _ _;rw [hb];refine wpAny_ret_mkInt ?_;have q':=q;rw [aI] at q';unfold reduceHash at q';show wpAny _ _ (if (decide (-(2:Int) ^ 63<=Builtin.Tuple.tupleHashOf (bV w xs))&&decide (Builtin.Tuple.tupleHashOf (bV w xs) < 2 ^ 63))=true then _ else _) Q E _;by_cases hc:(decide (-(2:Int) ^ 63<=Builtin.Tuple.tupleHashOf (bV w xs))&&decide (Builtin.Tuple.tupleHashOf (bV w xs) < 2 ^ 63))=true
    ·rw [Gs hc];rw [Gs hc] at q';exact Gi (q' _ (Nat.le_succ_of_le le))
    ·rw [Gy hc];rw [Gy hc] at q';exact Ge (Iw (Gi (q' _ (Nat.le_succ_of_le le))))
  | _=>cases h
end
section
variable {pr:Program} {ww:World} {AA:Around} {RR:Result->Shared->Prop} {IT:Addr} {fp wr:List Addr} {GG:Array GenState->Array GenState->Prop} {n:Nat} {PP:Nat->Value->Prop} {SS:Nat->Shared->Prop}
theorem pT.at {pv:Value->PyData->Prop} {h0 h h':Heap} {a:Addr} {ds:List PyData} (z:pT ww h0 pv h a ds) (k:∀ o,h.get? a=some o->h'.get? a=some o):pT ww h0 pv h' a ds:=by
 obtain ⟨ob,es,ep,tb,zs,ho,r⟩:=z;exact ⟨ob,es,ep,tb,zs,k _ ho,r⟩
theorem B3 {pv:Value->PyData->Prop} {h0:Heap} (W:WalksS pr ww AA.in1 IT fp wr GG n PP SS) (a:Addr) (ha:a ∉ fp) (h0a:h0.get? a=none) (h0w:∀ b∈wr,h0.get? b=none) (val:Nat->PyData) (hv:∀ i v,PP i v->kyB (val i)=true/\txB (val i)=true/\pv v (val i)/\∃ as,Reads h0 v (val i) as) (hu:AA.in1.units+6 < cLine) (hb:(nz val n).length < 300) :
  ∀ (k i:Nat) (s:Shared),n - i=k->i<=n->SS i s->(∀ b o,h0.get? b=some o->s.heap.get? b=some o)->pT ww h0 pv s.heap a (nz val i) ->
   (∀ s',Moved (a :: wr) GG s s'->pT ww h0 pv s'.heap a (nz val n)->RR (.ok (.ret .none)) s') ->
   codeAny (model pr ww) AA (.builtin "set.update.loop" ⟨[.ref a,.ref IT],[]⟩) RR s:=by
 have haw:a ∉ wr:=fun z=>ha (W.sub _ z);have hsb:∀ b∈wr,b∈a :: wr:=fun b z=>Gp _ z;intro k;induction k with
 | zero =>
  intro i s hk hi hst kp hS hR;obtain rfl:i=n:=by omega
  refine HQ Jt ?_;rw [HN Il _];show wpAny _ AA.in1 (pyNext (.ref IT)>>=_) _ _ s;refine Ge (W.done s _ _ hst fun s' hm=>?_);exact Gi (hR s' (hm.mono hsb) (hS.at fun o q=>hm.heap a _ haw q))
 | succ k ih =>
  intro i s hk hi hst kp hS hR;have hlt:i < n:=by omega
  refine HQ Jt ?_;rw [HN Il _];show wpAny _ AA.in1 (pyNext (.ref IT)>>=_) _ _ s;refine Ge (W.item i s _ _ hlt hst fun v s' hP hst' hm=>?_);obtain ⟨ky,tx,hpv,as,rd⟩:=hv i v hP;have kp':∀ b o,h0.get? b=some o->s'.heap.get? b=some o:=fun b o q=>hm.heap b _ (fun z=>by rw [h0w b z] at q;cases q) (kp b o q);have hS':pT ww h0 pv s'.heap a (nz val i):=hS.at fun o q=>hm.heap a _ haw q;show wpAny _ AA.in1 (holding [v] (setAdd a v)>>=_) _ _ s';refine Ge (Hv ?_);unfold setAdd;refine Hv ?_;refine Ge (ya 6 (IJ kp' rd) (aX.mp ky).1 (aX.mp ky).2.2 hu fun tk le=>?_);refine Cc (s:={ s' with toks:=tk }) kp' hS' rd ky tx hpv hu (by have:=vn (val:=val) hi;omega) fun bb h' hsm hS2=>?_;rw [<- oD] at hS2;have kp2:∀ b o,h0.get? b=some o->h'.get? b=some o:=fun b o q=>by
   rw [hsm.2 b (fun z:b=a=>by rw [z,h0a] at q;cases q)];exact kp' b o q
  refine Gi ⟨Ja Il _,ih (i+1) _ (by omega) hlt (W.frame _ s' _ _ hst' le fun b hb o e=>?_) kp2 hS2 fun s'' hm'' hS''=>?_⟩
  ·rw [hsm.2 b (fun z:b=a=>ha (by rw [<- z];exact hb))];exact e
  ·refine hR s'' (Moved.trans W.gtrans ((hm.mono hsb).then_heap le fun b o hb e=>?_) hm'') hS'';rw [hsm.2 b (fun z:b=a=>hb (by rw [z];exact Gm))];exact e
end
open PySem PySem.Spec PyProof.Rows
section
variable {pr:Program} {ww:World} {AA:Around} {EE:Value->Shared->Prop} {st:Shared}
theorem freshD {pv:Value->PyData->Prop} {h0 h:Heap} {a:Addr} (hg:h.get? a=some (bx ww)):pT ww h0 pv h a [] :=
 ⟨_,#[],0,SetTable.fresh 0 0 (!dU ww),[],hg,⟨rfl,rfl,rfl⟩,rfl,{ ms:=.inl rfl,nd:=rfl,len:=rfl,ris:=List.Pairwise.nil,le:=fun j hj=>(by cases hj),fil:=Hn _,pr:=fun i j h e=>(by cases i <;> cases e) },{ len:=rfl,nd:=List.Pairwise.nil,at_:=fun i e z he=>(by cases i <;> cases he),vl:=fun i e z he=>(by cases i <;> cases he) },.nil,rfl,fun z=>absurd rfl z,show 0*5 < 7*3 by decide⟩
theorem sN {pv:Value->PyData->Prop} {l:Addr} {its:Array Value} {ds:List PyData} {Q:Value->Shared->Prop} (hh:AA.handled=none) (hl:st.heap.IsList l its) (hlen:its.size=ds.length) (hi:∀ (i:Nat) (v:Value) (d:PyData),its[i]?=some v->ds[i]?=some d->kyB d=true/\txB d=true/\pv v d/\∃ as,Reads st.heap v d as) (hb:(ds.foldl bT []).length < 300) (hu:AA.units+64 < cLine)
  (h:∀ (h':Heap) (tk:Nat),pT ww st.heap pv h' st.heap.objs.size (ds.foldl bT [])->(∀ b o,b < st.heap.objs.size->st.heap.get? b=some o->h'.get? b=some o)->Q (.ref st.heap.objs.size) { st with heap:=h',toks:=tk }) :
  wpAny (model pr ww) AA (call (.type "set") [.ref l]) Q EE st:=by
 obtain ⟨cc,tl,hmro⟩:=F.called_set.mro;have hmade:=F.called_set.made;have hsub:=F.called_set.sub;refine wpAny_call (codeAny_of_tree ?_);show wpAny _ _ (callAny (.type "set") _) _ _ _;refine Gi ⟨Code.quiet_builtin _ (by decide +kernel),HQ F.entry_type_call ?_⟩;rw [Around.under_plain (weight_type_call_type "set" [.ref l] []) rfl];have h1:=F.called_set.notType;have h2:=F.called_set.canCreate;have hct:=F.typeCall_set_1 (.ref l)
 repeat (any_goals (first | assumption | wp_step))
 refine Jf (zj (.ref l) (EE:=EE) (Q:=fun obj s1=>obj=.ref st.heap.objs.size/\s1={ st with heap:=st.heap.push (bx ww) }) ⟨rfl,rfl⟩) fun r s1 hr=>?_;cases r with
 | error e=>exact hr
 | ok fl =>
  cases fl with
  | ret obj =>
   obtain ⟨rfl,rfl⟩:=hr;have hS:(st.heap.push (bx ww)).get? st.heap.objs.size=some (bx ww):=GR _ rfl;have hT:Shared.TypeIs { st with heap:=st.heap.push (bx ww) } (.ref st.heap.objs.size) "set" := ⟨_,hS,rfl⟩;have hli:=F.called_set.init.lookup;have hbi:=F.called_set.init.bind (.ref st.heap.objs.size)
   repeat (any_goals (first | assumption | wp_step))
   refine Jf (codeAny_call_builtin (R:=wants (fun r s2=>r=.none/\∃ h' tk,s2={ st with heap:=h',toks:=tk }/\pT ww st.heap pv h' st.heap.objs.size (ds.foldl bT []) /\
     (∀ b o,b < st.heap.objs.size->st.heap.get? b=some o->h'.get? b=some o)) EE) F.called_set.init.plain F.entry_set_init (check_set_init_1 hT ?_)) fun r2 s2 hr2=>?_
   ·obtain ⟨ol,hol,hcl,nl,hdl⟩:=hl;obtain ⟨c1,c2,c3,c4⟩:=ol;simp only at hcl hdl;subst hcl;subst hdl;have hol2:(st.heap.push (bx ww)).get? l=some { cls:=.type "list", dict:=c2,data:=.seq its nl,slots:=c4 }:=Gq _ hol;have hsls:=F.sub_list_set;have hslf:=F.sub_list_frozenset;have hne:(Value.type "list" == Value.type "dict")=false:=by decide
    have hl1:(st.heap.push (bx ww)).IsList l its:=⟨_,hol2,rfl,nl,rfl⟩;unfold Builtin.«set.__init__» noKeywords Builtin.Frozenset.updateFrom
    generalize hPI:pyIter=PI
    wp_walk
    subst hPI;refine wpAny_pyIter_list hl1 ?_;refine Ge (wpAny_runValue ?_);have hlS:l < st.heap.objs.size:=GA hol;have hh3:AA.in1.in1.in1.handled=none:=by simp [hh]
    have sz1:(st.heap.push (bx ww)).objs.size=st.heap.objs.size+1:=IU ..;have hneI:l≠(st.heap.push (bx ww)).objs.size:=by rw [sz1];exact GK (Hj hlS)
    have hSf:st.heap.objs.size ∉ [(st.heap.push (bx ww)).objs.size,l]:=by
     rw [sz1];simp only [Gv,Gn,IY,HL,not_or];exact ⟨GK (Ia _),IF hlS⟩
    have hval:∀ (i:Nat) (v:Value),its[i]?=some v->kyB ((fun i=>ds.getD i .none) i)=true/\txB ((fun i=>ds.getD i .none) i)=true/\pv v ((fun i=>ds.getD i .none) i)/\∃ as,Reads st.heap v ((fun i=>ds.getD i .none) i) as:=fun i v hv=>by
     have il:i < ds.length:=by rw [<- hlen];exact (Array.getElem?_eq_some_iff.mp hv).1
     have e:ds.getD i .none=ds[i]:=by rw [GP,Gd il];rfl
     show kyB (ds.getD i .none)=true/\txB (ds.getD i .none)=true/\pv v (ds.getD i .none)/\∃ as,Reads st.heap v (ds.getD i .none) as;rw [e];exact hi i v _ hv (Gd il)
    have hmet:nz (fun i=>ds.getD i .none) its.size=ds.foldl bT []:=by
     rw [hlen];unfold nz;congr 1;apply List.ext_getElem
     ·simp
     ·intro i h1 h2;simp [h2]
    have hn1:st.heap.get? st.heap.objs.size=none:=Heap.get?_none_of_le (Gu _);have hn2:st.heap.get? (st.heap.push (bx ww)).objs.size=none:=Heap.get?_none_of_le (by rw [sz1];exact HW _);refine B3 (h0:=st.heap) ((Walks.list hh3 _ l hneI its).toS) st.heap.objs.size hSf hn1 (fun b hb=>by rw [Gn.mp hb];exact hn2) (fun i=>ds.getD i .none) hval (by show AA.units+1+1+1+6 < cLine;omega) (by rw [hmet];exact hb) (its.size - 0) 0 _ (by omega) (Hn _)
     ⟨⟨_,GR _ rfl,rfl,rfl⟩,(hl1.push _)⟩ (fun b o q=>Gq _ (Gq _ q)) (freshD (Gq _ hS)) ?hR
    intro s' hm hS';rw [hmet] at hS';obtain ⟨h',g',d',tk',os'⟩:=s';have eg:g'=st.gens:=hm.gens;have ed:d'=st.drawn:=hm.drawn;have eo:os'=st.os:=hm.os;subst eg;subst ed;subst eo;show wpAny _ _ _ _ _ _;refine Gi ?_;show wpAny _ _ (ret Value.none) _ _ _;refine Gi ⟨rfl,h',tk',rfl,hS',fun b o hb e=>?_⟩;have hb1:b≠st.heap.objs.size:=GK hb;have hb2:b≠(st.heap.push (bx ww)).objs.size:=by rw [sz1];exact GK (Hj hb)
    exact hm.heap b o (by simp only [Gv,Gn,IY,HL,not_or];exact ⟨hb1,hb2⟩) (Gq _ (Gq _ e))
   ·cases r2 with
    | error e=>exact hr2
    | ok fl2 =>
     cases fl2 with
     | ret r =>
      obtain ⟨rfl,h',tk,rfl,hS',hk'⟩:=hr2
      repeat (any_goals (first | assumption | wp_step))
      exact h _ _ hS' hk'
     | _=>exact hr2.elim
  | _=>exact hr.elim
end
open PySem PySem.Spec PyProof.Rows
section
variable {pr:Program} {ww:World} {AA:Around} {EE:Value->Shared->Prop} {st:Shared}
theorem Dj {d:Addr} {ob:Obj} {es:Array (Int×Value)} {ep:Nat} {tb:SetTable} {Q:List Value->Shared->Prop} (hh:AA.handled=none) (ho:st.heap.get? d=some ob) (hx:ob.ExactSet) (hdd:ob.data=.set es ep tb) (ht:vH ww tb es.size) (hb:es.size < scanBound)
  (h:∀ vs h' d' tk,vs.Perm (es.toList.map (·.2))->st.heap.objs.size<=h'.objs.size->(∀ b o,st.heap.get? b=some o->h'.get? b=some o)->Q vs { st with heap:=h',drawn:=d',toks:=tk }) :
  wpAny (model pr ww) AA (collect (.ref d)) Q EE st:=by
 unfold collect;refine Ge (wpAny_runValue (HQ F.entry_proto_collect ?_));rw [HN F.plain_proto_collect _];show wpAny _ AA.in1 (newList []>>=fun l=>again (.builtin "list.__iadd__" ⟨[l,.ref d],[]⟩)) _ _ st;refine Ge (HA ?_);refine Gi ⟨Ja F.plain_list_iadd _,HQ F.entry_list_iadd ?_⟩;rw [HN F.plain_list_iadd _];have hlt:d < st.heap.objs.size:=GA ho;have ne:st.heap.objs.size≠d:=IF hlt;have g1:(st.heap.push { cls:=.type "list", data:=.seq ([]:List Value).toArray }).get? d=some ob:=Gq _ ho;have g2:(st.heap.push { cls:=.type "list", data:=.seq ([]:List Value).toArray }).get? st.heap.objs.size=some { cls:=.type "list", data:=.seq ([]:List Value).toArray }:=GR _ rfl;have e1:(st.heap.push { cls:=.type "list", data:=.seq ([]:List Value).toArray }).objs.size=st.heap.objs.size+1:=IU ..;have sr:Builtin.List.listSameRef (.ref st.heap.objs.size) (.ref d)=false:=by simp [Builtin.List.listSameRef,ne]
 show wpAny _ AA.in1 (Builtin.List.listExtendWith (.ref st.heap.objs.size) (.ref d) (.ref st.heap.objs.size)) _ _ _;unfold Builtin.List.listExtendWith;have hT:∀ (s:Shared),s.heap.get? d=some ob->s.TypeIs (.ref d) "set" := fun s z=>⟨_,z,hx.1⟩;refine Ge (Jv (hT _ g1) ?_);rw [Gy (by rw [sr];decide)];refine Ge (uC (st:={ st with heap:=st.heap.push { cls:=.type "list", data:=.seq ([]:List Value).toArray } }) g1 hx hdd ht hb fun vs f0 T IT h' d' pm gI wy lI nT lT kp=>?_);refine Ge (Hv ?_);unfold Builtin.List.listLengthHint;refine Ge (Io (hT _ (kp _ _ g1)) SF.nX ?_)
 (generalize hid:("set.__len__" : String)=id0;(fail_if_success (clear hid id0));wp_delta;rw [show splitId id0=some ("set", "__len__") from by subst hid;decide +kernel];subst hid)
 refine Ge (wpAny_isInstance (b:=true) (hT _ (kp _ _ g1)) sub_set_self ?_);show wpAny _ _ (typeOf (.ref d)>>=_) _ _ _;refine Ge (Jv (hT _ (kp _ _ g1)) ?_);refine Gi ?_;show wpAny _ AA.in1 (rule "list.extend.makes-room" >>= fun _=>Builtin.List.listTouch (.ref st.heap.objs.size)>>=fun _=>again (.builtin "list.extend.loop" ⟨[.ref st.heap.objs.size,.ref IT,.ref st.heap.objs.size],[]⟩)) _ _ _;refine Ge (Iw ?_);have g3:h'.get? st.heap.objs.size=some { cls:=.type "list", data:=.seq ([]:List Value).toArray }:=kp _ _ g2;refine Ge ?_;show wpAny _ AA.in1 (updateSeq st.heap.objs.size (·.push .none)>>=fun _=>updateSeq st.heap.objs.size (·.pop)) _ _ _;refine Ge (Jx g3 rfl ?_);have g4:=HU (Obj.mapSeq (·.push Value.none)) g3 rfl;refine Jx g4 rfl ?_;have g5:=HU (Obj.mapSeq (·.pop)) g4 rfl;have oth:∀ b o,b≠st.heap.objs.size->h'.get? b=some o->((h'.update st.heap.objs.size (Obj.mapSeq (·.push Value.none))).update st.heap.objs.size (Obj.mapSeq (·.pop))).get? b=some o :=
  fun b o hb e=>(H0 _ _ (Ne.symm hb)).trans ((H0 _ _ (Ne.symm hb)).trans e)
 have lI:st.heap.objs.size+1<=IT:=by rw [<- e1];exact lI
 have nI:IT≠st.heap.objs.size:=IF lI;have nT2:T≠st.heap.objs.size:=by
  rcases lT with z | z
  ·rw [z];exact Ne.symm ne
  ·have z:st.heap.objs.size+1<=T:=by rw [<- e1];exact z
   exact IF z
 have nd:d≠IT:=GK (GD (Hj hlt) lI);have hh2:AA.in1.handled=none:=hh;have hsl:vs.length<=sizeLine:=by
  rw [pm.length_eq,Gg,GN];exact Jn hb
 refine Gi ⟨Ja F.plain_extend_loop _,codeAny_extend_loopS (uQ hh2 IT d T nd nT hdd ht.fit vs) hsl st.heap.objs.size (by simp [ne,Ne.symm nI,Ne.symm nT2]) _ vs.length 0 _ _ _ rfl (Hn _)
  ⟨f0,oth _ _ nI gI,oth _ _ (Ne.symm ne) (kp _ _ g1),wy.frame fun o e=>oth _ _ nT2 e⟩ g5 (ItemsOf.nil _) fun s' acc' c' hm hS' hacc=>?_⟩
 show wpAny _ AA (load st.heap.objs.size>>=_) _ _ s';refine Ge (wpAny_load hS' ?_);have eacc:acc'.toList=vs:=by
  apply Jp;intro j;rw [Hz];rcases IG j acc'.size with z | z
  ·rw [He z];exact (hacc.2 j _ (He z)).symm
  ·rw [Array.getElem?_eq_none z];exact (HS (by rw [<- hacc.1];exact z)).symm
 refine Gi ?_;show Q acc'.toList s';rw [eacc];obtain ⟨h2,gn,dr,tk,os⟩:=s';have eg:gn=st.gens:=hm.gens;have ed:dr=d':=hm.drawn;have eo:os=st.os:=hm.os;subst eg;subst ed;subst eo;refine h vs h2 dr tk pm (Jg (GA hS')) fun b o e=>hm.heap b o ?_ (oth b o ?_ (kp _ _ (Gq _ e)))
 ·have hb:b < st.heap.objs.size:=GA e;simp only [Gv,IY,HL,not_or];exact ⟨GK hb,GK (GD (Hj hb) lI)⟩
 ·exact GK (GA e)
end
open PySem PySem.Spec PyProof.Rows PySem.W
section
variable {P:Program} {w:World} {A:Around} {E:Value->Shared->Prop} {s:Shared} {a:Addr} {vs:List Value} {R:PySem.Fin->Shared->Prop}
abbrev hp1 (h:Heap) (a:Addr) (vs:List Value):Heap:=((h.update a (Obj.mapSeq fun _=>(#[]:Array Value))).push (seqObj "tuple" vs.toArray 0)).push (seqObj "list" #[] 0)
theorem xk {h:Heap} {a b:Addr} {vs:List Value} {o:Obj} (n:b≠a) (e:h.get? b=some o):(hp1 h a vs).get? b=some o:=Gq _ (Gq _ ((H0 _ _ (Ne.symm n)).trans e))
theorem mO {n:Nat} {κ:SortKind} {lt:Nat->Nat->Bool} (ho:s.heap.get? a=some (seqObj "list" vs.toArray n)) (h64:vs.length < 300)
  (hk:2<=vs.length->∀ Q:SortKind->Shared->Prop,Q κ { s with heap:=hp1 s.heap a vs }->wpAny (model P w) A (keyKind' vs.toArray) Q (fun _ _=>False) { s with heap:=hp1 s.heap a vs })
  (hc:∀ i j (C:Bool->Shared->Prop),i < vs.length->j < vs.length->C (lt i j) { s with heap:=hp1 s.heap a vs }->kas_ask P w A κ vs i j C { s with heap:=hp1 s.heap a vs }) (O:Ord lt vs.length)
  (h:∀ p,Pm vs.length p->Up lt p vs.length->R (.done (.ret .none)) { s with heap:=sortedHeap s.heap a vs (List.toArray (p.toList.map fun i=>vs.getD i Value.none)) }) :
  wpAny (model P w) A (Builtin.«list.sort» ⟨[.ref a],[]⟩) R E s:=by
 obtain ⟨e1,ho1⟩:∃ e1,(s.heap.update a (Obj.mapSeq fun _=>(#[]:Array Value))).get? a=some (seqObj "list" #[] e1):=⟨_,get?_update_seq ho fun _=>#[]⟩;have ho2:(hp1 s.heap a vs).get? a=some (seqObj "list" #[] e1):=Gq _ (Gq _ ho1);rw [list_sort_plain];refine Ge (listItems_at ho rfl ?_);refine Ge (listUpdate_at ho rfl ?_ (by rw [Gw,Hm];omega) (Hn _));refine Ge (seqEpoch_at ho1 rfl ?_);refine Ge (wpAny_newTuple ?_ (by show vs.length<=_;rw [Hm];omega));refine Ge (wpAny_newList ?_ (Hn _));refine Hv ?_;show wpAny (model P w) A _ R E { s with heap:=hp1 s.heap a vs };dsimp only;have fin:∀ (st':SortSt) (p:Array Nat),arrOf st'=p.map (kas_item (vs.toArray.zip vs.toArray))->failedOf st'=none->Pm vs.length p->Up lt p vs.length ->
   wpAny (model P w) A (do
    let touched:=(<- seqEpoch a) != e1
    Builtin.List.listUpdate (.ref a) fun _=>(arrOf st').map (·.2)
    if let some e:=failedOf st' then rule "list.sort.comparison-raised"; throw e
    if touched then rule "list.sort.modified"; raiseError "ValueError" "list modified during sort"
    ret .none) R E { s with heap:=hp1 s.heap a vs }:=by
  intro st' p har hf hp hu;have hout:=kat_snds rfl har;have hsz:(List.toArray (p.toList.map fun i=>vs.getD i Value.none)).size=vs.length:=by rw [Gw,Gg,GN,hp.size]
  rw [hout];refine Ge (seqEpoch_at ho2 rfl ?_);refine Ge (listUpdate_at ho2 rfl ?_ (Hn _) (GU (Nat.le_of_eq hsz) (by rw [Hm];omega)));rw [hf];simp only [bne_self_eq_false,Hc,HP];exact Gi (h p hp hu)
 by_cases h2:vs.length < 2
 ·have hs:vs.toArray.size < 2:=by rw [Gw];exact h2
  rw [Gs hs,Gs hs];refine Ge (Gi ?_);show wpAny _ _ (pure (PUnit.unit,SortSt.mk' general' (vs.toArray.zip vs.toArray) #[] 7 none)>>=_) _ _ _;refine Ge (Gi ?_);have er:(List.toArray (List.range vs.length)).map (kas_item (vs.toArray.zip vs.toArray))=vs.toArray.zip vs.toArray:=by
   have e:=kas_range (vs.toArray.zip vs.toArray)
   rwa [show (vs.toArray.zip vs.toArray).size=vs.length by simp] at e
  exact fin (SortSt.mk' general' (vs.toArray.zip vs.toArray) #[] 7 none) (List.range vs.length).toArray er.symm rfl (Array.Perm.refl _) fun i hi=>by omega
 ·have hs:¬vs.toArray.size < 2:=by rw [Gw];exact h2
  rw [Gy hs,Gy hs];refine Ge (Hg (hk (by omega) (fun κ' s'=>κ'=κ/\s'={ s with heap:=hp1 s.heap a vs }) ⟨rfl,rfl⟩) (fun κ' s0 hk'=>?_) fun _ _ x=>x.elim);obtain ⟨rfl,rfl⟩:=hk'
  refine Ge (Hg (sP (Q:=fun st' s'=>∃ p:Array Nat,p.size=vs.length/\arrOf st'=p.map (kas_item (vs.toArray.zip vs.toArray))/\failedOf st'=none/\(Pm vs.length p/\Up lt p vs.length)/\s'={ s with heap:=hp1 s.heap a vs })
   rfl hc O fun p st' a1 a2 a3 a4 a5=>⟨p,a1,a2,a3,⟨a4,a5⟩,rfl⟩) ?_ fun _ _ x=>x)
  rintro ⟨⟨⟩,st'⟩ s' ⟨p,hp,har,hf,⟨h1,h2'⟩,rfl⟩;exact fin st' p har hf h1 h2'
end
noncomputable def kB:List Str->List Str->Bool
 | [],[]=>false
 | [],_ :: _=>true
 | _ :: _,[]=>false
 | a :: r,b :: q=>if a=b then kB r q else decide (a.cps.toList < b.cps.toList)
theorem l7:∀ x,kB x x=false
 | []=>rfl
 | a :: r=>by unfold kB;rw [Gs rfl];exact l7 r
theorem pR:∀ {x y z:List Str},kB x y=true->kB y z=true->kB x z=true
 | [],[],z,h1,h2=>by cases h1
 | [],_ :: _,[],h1,h2=>by cases h2
 | [],_ :: _,_ :: _,h1,h2=>rfl
 | _ :: _,[],z,h1,h2=>by cases h1
 | _ :: _,_ :: _,[],h1,h2=>by cases h2
 | a :: x,b :: y,c :: z,h1,h2=>by
  unfold kB at *;split at h1 <;> split at h2
  ·rename_i e1 e2;rw [Gs (e1.trans e2)];exact pR h1 h2
  ·rename_i e1 e2;rw [Gy (by rw [e1];exact e2),e1];exact h2
  ·rename_i e1 e2;rw [Gy (by rw [<- e2];exact e1),<-e2];exact h1
  ·have:=List.lt_trans (of_decide_eq_true h1) (of_decide_eq_true h2);rw [Gy (fun e=>by rw [e] at this;exact u9 _ this)];exact Iy this
theorem lS:∀ {x y:List Str},x≠y->kB x y=false->kB y x=true
 | [],[],hn,h=>absurd rfl hn
 | [],_ :: _,hn,h=>by cases h
 | _ :: _,[],hn,h=>rfl
 | a :: x,b :: y,hn,h=>by
  unfold kB at *;split at h
  ·rename_i e;rw [Gs e.symm];exact lS (fun z=>hn (by rw [e,z])) h
  ·rename_i e;rw [Gy (fun z=>e z.symm)];exact Iy (wD e (of_decide_eq_false h))
def TyT (K:Fg) (H:Hp) (u:V) (k:List Str):Prop:=k≠[]/\∃ t,u=.ref t/\SqT K H t (k.map V.str)
def TyH (h:Heap) (u:Value) (k:List Str):Prop:=k≠[]/\∃ t vs,u=.ref t/\IsTup h t (List.toArray vs)/\StrsAre vs k
theorem t8 {P:Program} {w:World} {A:Around} {s:Shared} {C:Bool->Shared->Prop} {fin:Bool}:∀ {vs us:List Value} {x y:List Str} (i:Nat),StrsAre vs x->StrsAre us y->fin=decide (vs.length < us.length)->C (kB x y) s->KatLex P w A true fin C (vs.zip us) i s
 | _,_,_,_,i,.nil,.nil,hf,h=>by subst hf;exact kat_nil h
 | _,_,_,_,i,.nil,.cons b t r,hf,h=>by subst hf;exact kat_nil (by simpa [kB] using h)
 | _,_,_,_,i,.cons a t r,.nil,hf,h=>by subst hf;exact kat_nil (by simpa [kB] using h)
 | _,_,_,_,i,.cons a t r,.cons b u q,hf,h=>by
  unfold kB at h;rw [List.zip_cons_cons];refine kat_cons (eqBool_str (kat_go (fun e=>kat_yes ?_) fun e=>kat_no ?_))
  ·rw [Gs (Hl.mp e)] at h;exact t8 (i+1) r q (by rw [hf];simp) h
  ·rw [Gy (fun z=>by rw [z,HM] at e;cases e)] at h;cases i with
   | zero=>exact oneLt_str h
   | succ i=>exact kat_one _ _ (lt_str h)
theorem zL {h:Heap}:∀ {us:List Value},(∀ u∈us,∃ k,TyH h u k)->∃ fs,KatTups h us fs/\fs.length=us.length/\∀ v∈fs,∃ i t,v=.str i t
 | [],_=>⟨[],trivial,rfl,fun _ z=>nomatch z⟩
 | u :: us,hu=>by
  obtain ⟨k,hn,t,vs,rfl,⟨o,g,c,n,d⟩,st⟩:=hu u Gm;obtain ⟨fs,h1,h2,h3⟩:=zL fun v hv=>hu v (Gp _ hv);cases st with
  | nil=>exact absurd rfl hn
  | cons y t1 r =>
   refine ⟨.str y t1 :: fs,KatTups.cons g c d rfl h1,by rw [GH,h2,GH],fun v hv=>?_⟩;rcases Gv.mp hv with rfl | hv
   ·exact ⟨_,_,rfl⟩
   ·exact h3 v hv
noncomputable def E3:PyData->Option (List Str)
 | .tuple ds=>match strsOf ds with | some (x :: r)=>some (x :: r) | _=>none
 | _=>none
noncomputable def tyS:KS where
 κ:=List Str
 dft:=[]
 dec:=inferInstance
 lt:=kB
 irr:=l7
 tr:=pR
 tot:=lS
 T:=TyT
 same:=fun ⟨hn,t,e,h⟩ sm=>⟨hn,t,e,tT h sm⟩
 Hh:=TyH
 key:=fun {X pins σ H s v u k} I r ⟨hn,t,e,h⟩=>by
  subst e;obtain ⟨its,r2,h2,_⟩:=I.tuple h;exact ⟨hn,t,its,r,h2,bQ r2⟩
 ask:=fun {P w A E s u v a b C} hu hx hy h=>by
  obtain ⟨_,x,vs,rfl,⟨ox,gx,cx,n,dx⟩,sx⟩:=hx;obtain ⟨_,y,us,rfl,⟨oy,gy,cy,m,dy⟩,sy⟩:=hy;refine kat_lt gx dx gy dy ?_;rw [HY,HY];exact t8 0 sx sy (by simp) h
 kd:=fun {P w A E s us Q} hu h0 hq=>by
  obtain ⟨fs,t1,t2,t3⟩:=zL hu;refine kat_kind (T:=.type "str") t1 (by rw [t2];exact h0) (fun v hv=>?_) rfl hq;obtain ⟨i,t,rfl⟩:=t3 v hv;exact Looks.of_pure rfl
 of:=E3
 ofT:=fun {K F H d u k} e h=>by
  unfold E3 at e;split at e
  ·split at e
   ·rename_i ds x r hss;cases e;obtain ⟨t,ys,rfl,sq,_,dl⟩:=h;obtain ⟨e2,_⟩:=jz hss dl;rw [e2] at sq;exact ⟨by simp,t,rfl,sq⟩
   ·cases e
  ·cases e
open PySem PySem.Spec PyProof.Rows PySem.W
theorem dQ:∀ {us vs:List Value},us.Perm vs->∀ {ys:List V},Vals ys vs->∃ ws,Vals ws us/\ws.Perm ys
 | _,_,.nil,zs,h=>by cases h;exact ⟨[],.nil,.nil⟩
 | _,_,.cons v p,zs,h=>by
  cases h with
  | cons r h =>
   obtain ⟨ws,a,b⟩:=dQ p h;exact ⟨_ :: ws,.cons r a,.cons _ b⟩
 | _,_,.swap v u l,zs,h=>by
  cases h with
  | cons r1 h =>
   cases h with
   | cons r2 h=>exact ⟨_,.cons r2 (.cons r1 h),.swap _ _ _⟩
 | _,_,.trans p q,zs,h=>by
  obtain ⟨ws,a,b⟩:=dQ q h;obtain ⟨vs,c,d⟩:=dQ p a;exact ⟨vs,c,d.trans b⟩
section
variable {K:Fg} {F:Addr->Prop} {H:Hp}
theorem fS:∀ {ys ws:List V},ws.Perm ys->∀ {zs:List PyData},DmL K F H zs ys->∃ qs,DmL K F H qs ws/\qs.Perm zs
 | _,_,.nil,[],h=>⟨[],rfl,.nil⟩
 | _,_,.nil,z :: zs,h=>by obtain ⟨_,_,e,_⟩:=h;cases e
 | _,_,.cons v p,[],h=>by cases h
 | _,_,.cons v p,z :: zs,h=>by
  obtain ⟨_,_,e,h1,h2⟩:=h;cases e;obtain ⟨qs,a,b⟩:=fS p h2;exact ⟨z :: qs,⟨_,_,rfl,h1,a⟩,b.cons z⟩
 | _,_,.swap v u l,[],h=>by cases h
 | _,_,.swap v u l,[z],h=>by obtain ⟨_,_,e,h1,h2⟩:=h;cases e;cases h2
 | _,_,.swap v u l,z :: z2 :: zs,h=>by
  obtain ⟨_,_,e,h1,_,_,e2,h2,h3⟩:=h;cases e;cases e2;exact ⟨z2 :: z :: zs,⟨_,_,rfl,h2,_,_,rfl,h1,h3⟩,.swap _ _ _⟩
 | _,_,.trans p q,zs,h=>by
  obtain ⟨qs,a,b⟩:=fS q h;obtain ⟨qs2,c,d⟩:=fS p a;exact ⟨qs2,c,d.trans b⟩
theorem DmL.at_:∀ {ds:List PyData} {xs:List V} {i:Nat} {d:PyData},DmL K F H ds xs->ds[i]?=some d->∃ x,xs[i]?=some x/\Dm K F H d x
 | [],xs,i,d,h,e=>by simp at e
 | d :: ds,xs,i,d',h,e=>by
  obtain ⟨v,r,rfl,h1,h2⟩:=h;cases i with
  | zero=>simp at e;subst e;exact ⟨v,rfl,h1⟩
  | succ i=>simpa using DmL.at_ h2 (by simpa using e)
theorem uW:∀ {ds:List PyData} {xs:List V},ds.length=xs.length->(∀ (i:Nat) (d:PyData) (x:V),ds[i]?=some d->xs[i]?=some x->Dm K F H d x)->DmL K F H ds xs
 | [],[],_,_=>rfl
 | [],_ :: _,h,_=>by simp at h
 | _ :: _,[],h,_=>by simp at h
 | d :: ds,x :: xs,h,q=>⟨x,xs,rfl,q 0 d x rfl rfl,uW (by simpa using h) fun i d' x' a b=>q (i+1) d' x' (by simpa using a) (by simpa using b)⟩
theorem kz {ds:List PyData} {xs:List V} (h:DmL K F H ds xs):∀ {l:List Nat},(∀ i∈l,i < xs.length)->DmL K F H (l.map fun i=>ds.getD i .none) (l.map fun i=>xs.getD i .non)
 | [],_=>rfl
 | i :: l,hb=>by
  have hi:=hb i Gm;have hd:i < ds.length:=by rw [<- h.len];exact hi
  obtain ⟨x,e,dx⟩:=h.at_ (Gd hd);refine ⟨_,_,rfl,?_,kz h fun j hj=>hb j (Gp _ hj)⟩;show Dm K F H (ds.getD i .none) (xs.getD i .non);rw [GP,GP,Gd hd,e];exact dx
end
def u5 (S:KS) (K:Fg):V->Hp->VK->Prop:=fun u H Q=>∃ (a:Addr) (xs:List V) (ks:List S.κ),u=.ref a/\SqL K H a xs/\xs.length < 300/\ks.length=xs.length/\ks.Nodup/\(∀ (i:Nat) (x:V) (k:S.κ),xs[i]?=some x->ks[i]?=some k->S.T K H x k) /\
 ∀ (D:Addr) (p:Array Nat),H D=none->Pm xs.length p->Up (xy S ks) p xs.length->Q (.ref D) (upd H D (.lst (p.toList.map fun i=>xs.getD i .non)))
section
variable {X:Cx} {pins:List (Addr×Obj)} {σ:St} {H:Hp} {s:Shared}
theorem lu {S:KS} {A:Around} {xs:List V} {vs:List Value} {ks:List S.κ} {h':Heap} {d':Drawn} {tk:Nat} {R:PySem.Fin->Shared->Prop} {D:Addr} {n:Nat} (I:Inv X pins σ H s) (kp:∀ b o,s.heap.get? b=some o->h'.get? b=some o) (hD:s.heap.objs.size<=D) (hg:h'.get? D=some (seqObj "list" vs.toArray n)) (rv:Vals xs vs)
  (h64:xs.length < 300) (kl:ks.length=xs.length) (kn:ks.Nodup) (kT:∀ (i:Nat) (x:V) (k:S.κ),xs[i]?=some x->ks[i]?=some k->S.T X.K H x k) (hu:A.units+64 < cLine)
  (q:∀ p,Pm xs.length p->Up (xy S ks) p xs.length->R (.done (.ret .none)) { s with heap:=sortedHeap h' D vs (List.toArray (p.toList.map fun i=>vs.getD i Value.none)),drawn:=d',toks:=tk }) :
  wpAny (model X.prog X.w) A (Builtin.«list.sort» ⟨[.ref D],[]⟩) R X.xe { s with heap:=h',drawn:=d',toks:=tk }:=by
 have vl:vs.length=xs.length:=rv.length.symm;have I1:Inv X pins σ H { s with heap:=hp1 h' D vs,drawn:=d',toks:=tk }:=Inv.drew (d':=d') (I.kept (t':=tk) fun b o e=>xk (GK (GD (GA e) hD)) (kp b o e));have ky:∀ i,i < vs.length->S.Hh (hp1 h' D vs) (vs.getD i Value.none) (ks.getD i S.dft):=by
  intro i hi;have hx:i < xs.length:=by rw [<- vl];exact hi
  have hk:i < ks.length:=by rw [kl];exact hx
  obtain ⟨u,e,r⟩:=rv.get (Gd hx);rw [GP,GP,e,Gd hk];exact S.key I1 r (kT i _ _ (Gd hx) (Gd hk))
 refine mO (s:={ s with heap:=h',drawn:=d',toks:=tk }) (κ:=tuples' true) (lt:=xy S ks) hg (by rw [vl];exact h64) (fun h2 Q' hq=>?_) (fun i j C hi hj hC=>?_) (by rw [vl,<-kl];exact ED S kn) fun p hp hu'=>?_
 ·refine S.kd (s:={ s with heap:=hp1 h' D vs,drawn:=d',toks:=tk }) (us:=vs) (fun u hu=>?_) (by omega) hq;obtain ⟨i,hi⟩:=Hb.mp hu;have il:i < vs.length:=(Gh.mp hi).1;have:=ky i il;rw [GP,hi] at this;exact ⟨_,this⟩
 ·unfold kas_ask;exact S.ask hu (ky i hi) (ky j hj) hC
 ·rw [vl] at hp hu';exact q p hp hu'
theorem eE {xs:List V} {vs:List Value} (rv:Vals xs vs):∀ {l:List Nat},(∀ i∈l,i < xs.length)->Vals (l.map fun i=>xs.getD i .non) (l.map fun i=>vs.getD i Value.none)
 | [],_=>.nil
 | i :: l,hb=>by
  have hi:=hb i Gm;obtain ⟨u,e,r⟩:=rv.get (Gd hi);refine .cons ?_ (eE rv fun j hj=>hb j (Gp _ hj));show RelV (xs.getD i .non) (vs.getD i Value.none);rw [GP,GP,e,Gd hi];exact r
theorem mN {S:KS} (hu:X.A.units+66 < cLine):az X (.builtin "sorted") (fun us H Q=>∃ u,us=[u]/\u5 S X.K u H Q):=by
 intro pins s σ H us ws Q I r h;obtain ⟨u,rfl,a,xs,ks,rfl,hq,h64,kl,kn,kT,q⟩:=h;obtain ⟨v,rfl,r1⟩:=vals1 r;cases (show v=Value.ref a from r1);obtain ⟨vs,rv,p,hz⟩:=I.list hq;have vl:vs.length=xs.length:=rv.length.symm;refine Calls.call_function_entry kind_sorted plain_sorted entry_sorted (args_sorted1 _) ?_;unfold Builtin.«sorted»
 refine Ge (m:=checkCount "sorted" 1 1 _) (Gi ?_);refine Ge (collect_list p.isList ?_ (by rw [Hm];omega));refine Ge (wpAny_newList ?_ (by rw [Hm];omega));have hsz:((s.heap.push (seqObj "list" #[] 0)).update s.heap.objs.size (Obj.mapSeq (·++vs.toArray))).objs.size=s.heap.objs.size+1:=by
  rw [Heap.size_update,size_push']
 have hoL:(((s.heap.push (seqObj "list" #[] 0)).update s.heap.objs.size (Obj.mapSeq (·++vs.toArray))).push (seqObj "list" vs.toArray 0)).get? (s.heap.objs.size+1)=some (seqObj "list" vs.toArray 0):=by
  rw [<- hsz];exact GR _ rfl
 have keep:∀ b o,s.heap.get? b=some o->(((s.heap.push (seqObj "list" #[] 0)).update s.heap.objs.size (Obj.mapSeq (·++vs.toArray))).push (seqObj "list" vs.toArray 0)).get? b=some o:=fun b o q=>by
  have hlt:b < s.heap.objs.size:=GA q;rw [Heap.get?_push_ne _ _ _ (by rw [hsz];exact GK (Hj hlt)),Heap.get?_update_ne _ _ _ _ (GK hlt),Heap.get?_push_ne _ _ _ (GK hlt)];exact q
 show wpAny _ _ _ _ _ { s with heap:=((s.heap.push (seqObj "list" #[] 0)).update s.heap.objs.size (Obj.mapSeq (·++vs.toArray))).push (seqObj "list" vs.toArray 0) };rw [hsz];refine Ge (Hv (H9 slot_list_sort ⟨_,hoL,rfl⟩ entry_list_sort (lu (d':=s.drawn) (tk:=s.toks) I keep (HW _) hoL rv h64 kl kn kT (by show X.A.units+1+1+64 < cLine;omega) fun pp hp hu'=>?_) (args_list_sort _)));obtain ⟨e,he⟩:=sortedHeap_at (out:=List.toArray (pp.toList.map fun i=>vs.getD i Value.none)) (vs:=vs) (n:=0) hoL;have hn:H (s.heap.objs.size+1)=none:=I.hok.fresh (HW _);have hb:∀ i∈pp.toList,i < xs.length:=fun i hi=>by
  have:=(IE.mp hp).mem_iff.mp hi;simpa using this
 refine ⟨_,rfl,Gi ⟨_,rfl,.ref (s.heap.objs.size+1),_,I.laid (t':=s.toks) (o:=.lst (pp.toList.map fun i=>xs.getD i .non)) (fun b o q=>?_) (HW _) ⟨?_,_,e,eE rv hb,he⟩,rfl,q _ pp hn hp hu'⟩⟩
 ·have lt:b < s.heap.objs.size:=GA q;rw [sortedHeap_old (GK (Hj lt)) (by rw [size_push',hsz];exact Hj (Hj lt))];exact keep b o q
 ·rw [Gg,GN,hp.size,Hm];omega
noncomputable def tq (X:Cx) (p:Addr) (ys:List V):HO:=.ext fun h=>∃ ob es ep tb,h.get? p=some ob/\ob.ExactSet/\ob.data=.set es ep tb/\vH X.w tb es.size/\es.size < scanBound/\Vals ys (es.toList.map (·.2))
def Ei (X:Cx):List V->Hp->VK->Prop:=fun us H Q=>∃ (a:Addr) (F:Addr->Prop) (ys:List V) (ds:List PyData),us=[.ref a]/\SqL X.K H a ys/\DmL X.K F H ds ys/\(∀ d∈ds,hk6 d=true/\txB d=true)/\(ds.foldl bT []).length < 300 /\
 ∀ (p:Addr) (zs:List PyData) (ws:List V),H p=none->zs.Perm (ds.foldl bT [])->DmL X.K F H zs ws->Q (.ref p) (upd H p (tq X p ws))
theorem qE (hc:X.calm=true) (hu:X.A.units+66 < cLine):az X (.type "set") (Ei X):=by
 intro pins s σ H us vs Q I r h;obtain ⟨a,F,ys,ds,rfl,hq,dl,hk,h64,q⟩:=h;obtain ⟨u,rfl,r1⟩:=vals1 r;cases (show u=Value.ref a from r1);obtain ⟨its,rv,p,hz⟩:=I.list hq;have hl:its.length=ds.length:=by rw [<- rv.length,dl.len]
 refine sN (pv:=fun v d=>∃ j:Nat,its[j]?=some v/\ds[j]?=some d) (ds:=ds) (I.ok.hd hc) p.isList (by rw [Gw];exact hl) (fun i v d hv hd=>?_) h64 (by omega) fun h' tk hS hkp=>?_
 ·have hv:its[i]?=some v:=by simpa using hv
  have hm:=hk d (Gx hd);obtain ⟨x,ex,dx⟩:=dl.at_ hd;obtain ⟨u,eu,ru⟩:=rv.get ex;rw [hv] at eu;cases eu;have h6:hkB d=true/\d.depth<=6:=by simpa [hk6] using hm.1
  obtain ⟨as,rd⟩:=dx.reads I (qI _ h6.1) ru;exact ⟨aX.mpr ⟨h6.1,dx.lay (qI _ h6.1),h6.2⟩,hm.2,⟨i,hv,hd⟩,as,rd⟩
 ·obtain ⟨ob,es,ep,t,zs,ho,hex,hdd,T,N,pm,led,pln,nf⟩:=hS;have hn:H s.heap.objs.size=none:=I.hok.fresh (Gu _);have ex:∀ i,i < es.toList.length->∃ x,∀ e z,es.toList[i]?=some e->zs[i]?=some z->RelV x e.2/\Dm X.K F H z x:=by
   intro i hi;have iz:i < zs.length:=by rw [<- N.len];exact hi
   obtain ⟨j,h1,h2⟩:=N.vl i _ _ (Gd hi) (Gd iz);obtain ⟨x,ex,dx⟩:=dl.at_ h2;obtain ⟨u,eu,ru⟩:=rv.get ex;rw [h1] at eu;cases eu;refine ⟨x,fun e z he hz=>?_⟩;rw [Gd hi] at he;rw [Gd iz] at hz;cases he;cases hz;exact ⟨ru,dx⟩
  obtain ⟨ws,wl,hw⟩:∃ ws:List V,ws.length=es.toList.length/\∀ (i:Nat) (x:V) (e:Int×Value) (z:PyData),ws[i]?=some x->es.toList[i]?=some e->zs[i]?=some z->RelV x e.2/\Dm X.K F H z x:=by
   have key:∀ n,n<=es.toList.length->∃ ws:List V,ws.length=n/\∀ (i:Nat) (x:V) (e:Int×Value) (z:PyData),ws[i]?=some x->es.toList[i]?=some e->zs[i]?=some z->RelV x e.2/\Dm X.K F H z x:=by
    intro n;induction n with
    | zero=>exact fun _=>⟨[],rfl,fun i x e z h=>by simp at h⟩
    | succ n ih =>
     intro hn;obtain ⟨ws,wl,hw⟩:=ih (by omega);obtain ⟨x,hx⟩:=ex n (by omega);refine ⟨ws++[x],by rw [Gf,wl];rfl,fun i y e z h1 h2 h3=>?_⟩;rcases IG i ws.length with c | c
     ·rw [Gz c] at h1;exact hw i y e z h1 h2 h3
     ·rw [Gj c] at h1;have:i=n:=by
       have:=(Gh.mp h1).1;simp at this;omega
      subst this;rw [wl,IP] at h1;cases h1;exact hx e z h2 h3
   exact key _ (Gu _)
  have wv:Vals ws (es.toList.map (·.2)):=by
   have key:∀ (ws:List V) (es:List (Int×Value)) (zs:List PyData),ws.length=es.length->es.length=zs.length->(∀ (i:Nat) (x:V) (e:Int×Value) (z:PyData),ws[i]?=some x->es[i]?=some e->zs[i]?=some z->RelV x e.2)->Vals ws (es.map (·.2)):=by
    intro ws;induction ws with
    | nil=>intro es zs h1 h2 _;cases es with
     | nil=>exact .nil
     | cons _ _=>simp at h1
    | cons w ws ih=>intro es zs h1 h2 h3;cases es with
     | nil=>simp at h1
     | cons e es=>cases zs with
      | nil=>simp at h2
      | cons z zs=>exact .cons (h3 0 w e z rfl rfl rfl) (ih es zs (by simpa using h1) (by simpa using h2) fun i x e z a b c=>h3 (i+1) x e z (by simpa using a) (by simpa using b) (by simpa using c))
   exact key ws _ zs wl N.len fun i x e z a b c=>(hw i x e z a b c).1
  have dw:DmL X.K F H zs ws:=uW (by rw [wl,N.len]) fun i d x hd hx=>by
   have ie:i < es.toList.length:=by rw [<- wl];exact (Gh.mp hx).1
   exact (hw i x _ d hx (Gd ie) hd).2
  have tt:vH X.w t es.size:=⟨T.fits (by rw [Gg,GN]),led,pln⟩;have szb:es.size < scanBound:=by
   have:es.size=zs.length:=by rw [<- N.len,GN]
   rw [this,pm.length_eq];exact Nat.lt_trans h64 (by decide)
  refine ⟨.ref s.heap.objs.size,_,I.laid (t':=tk) (o:=tq X s.heap.objs.size ws) (fun b o hb=>hkp b o (GA hb) hb) (Gu _) ?_,rfl,q _ zs ws hn pm dw⟩;exact ⟨⟨ob,es,ep,t,ho,hex,hdd,tt,szb,wv⟩,⟨_,ho⟩,fun h1 h2 ⟨ob,es,ep,t,a1,a2⟩ k=>⟨ob,es,ep,t,k _ a1,a2⟩⟩
end
open PySem PySem.Spec PyProof.Rows PySem.W
noncomputable def kOf (S:KS) (d:PyData):S.κ:=(S.of d).getD S.dft
def okS (S:KS) (zs:List PyData):Prop:=(∀ z∈zs,(S.of z).isSome=true)/\(zs.map (kOf S)).Nodup
noncomputable def Bj (S:KS) (zs:List PyData):Bool:=(zs.all fun z=>(S.of z).isSome)&&@decide (zs.map (kOf S)).Nodup (@List.nodupDecidable _ S.dec _)
theorem fM {S:KS} {zs:List PyData}:Bj S zs=true↔okS S zs:=by
 unfold Bj okS;rw [GY,IZ];exact and_congr Iff.rfl ⟨@of_decide_eq_true _ (_),@decide_eq_true _ (_)⟩
noncomputable def fG (S:KS) (zs:List PyData):List PyData:=(Sg.xx ((zs.map (kOf S)).zip zs)).map (·.2)
theorem rL {S:KS} {d:PyData} (h:(S.of d).isSome=true):S.of d=some (kOf S d):=by
 unfold kOf;cases e:S.of d with
 | none=>rw [e] at h;cases h
 | some k=>rfl
theorem okS.perm {S:KS} {zs qs:List PyData} (h:okS S zs) (p:qs.Perm zs):okS S qs:=⟨fun z hz=>h.1 z (p.mem_iff.mp hz),(p.map _).nodup_iff.mpr h.2⟩
theorem iE (S:KS) (zs:List PyData):(zs.map (kOf S)).zip zs=zs.map fun z=>(kOf S z,z):=by
 induction zs with
 | nil=>rfl
 | cons z zs ih=>rw [List.map_cons,List.zip_cons_cons,ih];rfl
theorem fV {S:KS} {zs qs:List PyData} (h:okS S zs) (p:qs.Perm zs):fG S qs=fG S zs:=by
 unfold fG;congr 1;refine List.Perm.eq_of_pairwise (le:=fun a b=>S.lt a.1 b.1=true) (fun a b _ _ h1 h2=>?_) (Sg.i8 _ ?_) (Sg.i8 _ ?_) ?_
 ·have:=S.tr h1 h2;rw [S.irr] at this;cases this
 ·rw [List.map_fst_zip (by simp)];exact (h.perm p).2
 ·rw [List.map_fst_zip (by simp)];exact h.2
 ·refine (Sg.bW _).trans (List.Perm.trans ?_ (Sg.bW _).symm);rw [iE,iE];exact p.map _
theorem iW (S:KS) (zs:List PyData):(fG S zs).Perm zs:=by
 unfold fG;have:=(Sg.bW ((zs.map (kOf S)).zip zs)).map (·.2)
 rwa [List.map_snd_zip (by simp)] at this
section
variable {X:Cx} {pins:List (Addr×Obj)} {σ:St} {H:Hp} {s:Shared}
theorem xI {S:KS} {K:Fg} {F:Addr->Prop} {zs:List PyData} {ys:List V} (dl:DmL K F H zs ys) (h:okS S zs):∀ (i:Nat) (x:V) (k:S.κ),ys[i]?=some x->(zs.map (kOf S))[i]?=some k->S.T K H x k:=by
 intro i x k hx hk;rw [GB] at hk;obtain ⟨z,hz,rfl⟩:=GW.mp hk;obtain ⟨y,hy,dy⟩:=dl.at_ hz;rw [hx] at hy;cases hy;exact S.ofT (rL (h.1 z (Gx hz))) dy
def zB (S:KS) (X:Cx):List V->Hp->VK->Prop:=fun us H Q=>∃ (d:Addr) (F:Addr->Prop) (zs:List PyData) (ys:List V),us=[.ref d]/\H d=some (tq X d ys)/\DmL X.K F H zs ys/\zs.length < 300/\okS S zs/\∀ (D:Addr) (ws:List V),H D=none->DmL X.K F H (fG S zs) ws->Q (.ref D) (upd H D (.lst ws))
theorem mS {S:KS} (hc:X.calm=true) (hu:X.A.units+66 < cLine):az X (.builtin "sorted") (zB S X):=by
 intro pins s σ H us vs0 Q I r h;obtain ⟨d,F,zs,ys,rfl,hq,dl,h64,ok,q⟩:=h;obtain ⟨v,rfl,r1⟩:=vals1 r;cases (show v=Value.ref d from r1);obtain ⟨⟨ob,es,ep,tb,ho,hx,hdd,tt,szb,wv⟩,_⟩:=I.hok _ _ hq;refine Calls.call_function_entry kind_sorted plain_sorted entry_sorted (args_sorted1 _) ?_;unfold Builtin.«sorted»
 refine Ge (m:=checkCount "sorted" 1 1 _) (Gi ?_);refine Ge (Dj (I.ok.hd hc) ho hx hdd tt szb fun vs h1 d1 tk pm le kp=>?_);obtain ⟨ws,w1,w2⟩:=dQ pm wv;obtain ⟨qs,q1,q2⟩:=fS w2 dl;have wl:ws.length < 300:=by rw [q1.len,q2.length_eq];exact h64
 have vl:vs.length=ws.length:=w1.length.symm;refine Ge (wpAny_newList ?_ (by rw [Hm];omega));have g1:(h1.push (seqObj "list" vs.toArray 0)).get? h1.objs.size=some (seqObj "list" vs.toArray 0):=GR _ rfl;have ok2:=ok.perm q2;refine Ge (Hv (H9 slot_list_sort ⟨_,g1,rfl⟩ entry_list_sort (lu (s:=s) (h':=h1.push (seqObj "list" vs.toArray 0)) (ks:=qs.map (kOf S)) (d':=d1) (tk:=tk) I (fun b o e=>Gq _ (kp b o e)) le g1 w1 wl (by rw [Gg,q1.len]) ok2.2 (xI q1 ok2) (by show X.A.units+1+1+64 < cLine;omega) fun pp hp hu'=>?_) (args_list_sort _)));obtain ⟨e,he⟩:=sortedHeap_at (out:=List.toArray (pp.toList.map fun i=>vs.getD i Value.none)) (vs:=vs) (n:=0) g1;have hn:H h1.objs.size=none:=I.hok.fresh le;have hb:∀ i∈pp.toList,i < ws.length:=fun i hi=>by
  have:=(IE.mp hp).mem_iff.mp hi;simpa using this
 have row:fG S qs=pp.toList.map fun i=>qs.getD i .none:=by
  have l:ws.length=qs.length:=q1.len;rw [l] at hp hu';exact Sg.l8 (by rw [Gg]) ok2.2 hp hu'
 have dm:DmL X.K F H (fG S zs) (pp.toList.map fun i=>ws.getD i .non):=by
  rw [<- fV ok q2,row];exact kz q1 hb
 refine ⟨_,rfl,Gi ⟨_,rfl,.ref h1.objs.size,_,Inv.drew (d':=d1) (I.laid (t':=tk) (o:=.lst (pp.toList.map fun i=>ws.getD i .non)) (fun b o q=>?_) le ⟨?_,_,e,eE w1 hb,he⟩),rfl,q _ _ hn dm⟩⟩
 ·have lt:b < h1.objs.size:=GA (kp b o q);rw [sortedHeap_old (GK lt) (by rw [size_push'];exact Hj lt)];exact Gq _ (kp b o q)
 ·rw [Gg,GN,hp.size,Hm];omega
end
noncomputable def nR (S:KS):PyData->Option PR
 | .list ds=>if ds.length < 300/\Bj S ds=true then some (.frs (.list (fG S ds))) else none
 | _=>none
noncomputable def j3 (S:KS):Prm:=Prm.one (fun K=>u5 S K) (nR S) fun K F H x u pr Q hf hx hd q=>by
 unfold nR at hf;split at hf
 ·rename_i ds;split at hf
  ·rename_i c;cases hf;obtain ⟨a,us,rfl,s1,z1,d1⟩:=ke hx;have ok:=fM.mp c.2;have l:us.length=ds.length:=d1.len;refine ⟨a,us,ds.map (kOf S),rfl,s1,by rw [l];exact c.1,by rw [Gg,l],ok.2,xI d1 ok,fun D p hD hp hu=>q _ _ (ay.nw _ hD) ?_⟩;have hb:∀ i∈p.toList,i < us.length:=fun i hi=>by
    have:=(IE.mp hp).mem_iff.mp hi;simpa using this
   have row:fG S ds=p.toList.map fun i=>ds.getD i .none:=by
    rw [l] at hp hu;exact Sg.l8 (by rw [Gg]) ok.2 hp hu
   rw [row];refine xo hD ?_ (kz d1 hb);rw [Gg,GN,hp.size];exact z1
  ·cases hf
 ·cases hf
theorem qP {X:Cx} {S:KS} (hu:X.A.units+66 < cLine):az X (.builtin "sorted") ((j3 S).r X.K):=g9 (mN hu) fun u H Q h=>⟨u,rfl,h⟩
def rST (S:KS) (K:Fg):V->Hp->VK->Prop:=fun x H Q=>∃ (a:Addr) (F:Addr->Prop) (ys:List V) (ds:List PyData),x=.ref a/\SqL K H a ys/\DmL K F H ds ys/\(∀ d∈ds,hk6 d=true/\txB d=true)/\(ds.foldl bT []).length < 300/\okS S (ds.foldl bT [])/\(∀ b,F b->H b≠none) /\
 ∀ (H1:Hp) (p:Addr) (ws:List V),ay H H1->H1 p=none->DmL K F H1 (fG S (ds.foldl bT [])) ws->Q (.ref p) (upd H1 p (.lst ws))
noncomputable def qQ (S:KS):PyData->Option PR
 | .list ds=>if (ds.all fun d=>hk6 d&&txB d)=true/\(ds.foldl bT []).length < 300/\Bj S (ds.foldl bT [])=true then some (.frs (.list (fG S (ds.foldl bT [])))) else none
 | _=>none
noncomputable def hU (S:KS):Prm:=Prm.one (rST S) (qQ S) fun K F H x u pr Q hf hx hd q=>by
 unfold qQ at hf;split at hf
 ·rename_i ds;split at hf
  ·rename_i c;cases hf;obtain ⟨a,us,rfl,s1,z1,d1⟩:=ke hx;have ok:=fM.mp c.2.2;refine ⟨a,F,us,ds,rfl,s1,d1,fun d hd=>by simpa using IZ.mp c.1 d hd,c.2.1,ok,hd,fun H1 p ws sm hp dw=>?_⟩;have hp0:H p=none:=sm.free hp;refine q _ _ (sm.trans (ay.nw _ hp)) ⟨p,rfl,hp0,ws,ai,?_,?_⟩
   ·rw [dw.len,(iW S _).length_eq,Hm];omega
   ·exact (dw.fresh hp).pr (Pr.of_same (ay.nw _ hp)) fun _ z=>z
  ·cases hf
 ·cases hf
theorem eST {X:Cx} {S:KS} {e:Expr} {te:TE} {p1 p2 pos1 pos2:Pos} (hc:X.calm=true) (hu:X.A.units+66 < cLine) (hg1:Gl X "sorted") (hm1:X.mg "sorted" = none) (hg2:Gl X "set") (hm2:X.mg "set" = none) (h:PySem.W.isStarred e=false) (ha:JE X e te) :
  JE X (.Call (.Name "sorted" p1) [.Call (.Name "set" p2) [e] [] pos2] [] pos1) (tCB ((hU S).r X.K) (jA te v7)):=by
 let te':TE:=fun σ H P=>∃ P0:VK,te σ H P0/\∀ x H1,P0 x H1->P x H1
 have ha':JE X e te':=⟨fun pins s σ H P I ⟨P0,h0,h1⟩=>Hg (ha.h pins s σ H P0 I h0) (fun v s' ⟨x,H',I',r,q⟩=>⟨x,H',I',r,h1 _ _ q⟩) fun _ _ z=>z⟩;have inner:=eTy (p:=p2) (pos:=pos2) (qE hc hu) hg2 hm2 (by decide +kernel) (eA ha' ab h) h rfl (by decide) rfl;have outer:=eB (p:=p1) (pos:=pos1) (mS (S:=S) hc hu) hg1 hm1 (by decide +kernel) (eA inner ab rfl) rfl rfl (by decide) rfl;refine ⟨?_⟩;intro pins s σ H Q I hT;refine outer.h pins s σ H Q I ⟨_,hT,fun x H1 z=>?_⟩;have z:rST S X.K x H1 Q:=z;obtain ⟨a,F,ys,ds,rfl,sq,dl,hk,h64,ok,hF,q⟩:=z;refine ⟨a,F,ys,ds,rfl,sq,dl,hk,h64,fun p zs ws hp pm dw=>?_⟩;have sm:=ay.nw (tq X p ws) hp;refine ⟨p,F,zs,ws,rfl,ai,dw.pr (Pr.of_same sm) (fun _ z=>z),by rw [pm.length_eq];exact h64,ok.perm pm,fun p2 ws2 hp2 dw2=>?_⟩;rw [fV ok pm] at dw2;exact q _ p2 ws2 sm hp2 dw2
open PySem PySem.Spec PyProof.Rows PySem.W
theorem eD.km {k:Nat} {A:Around} (r:eD k A):A.units+66 < cLine:=by have:=r.un;omega
open PySem PySem.Spec PyProof.Rows
def E4 (l:List (Str×Cst)):V->Hp->VK->Prop:=fun y H Q=>∃ z,y=.str z/\kgV l z≠.non/\Q (kgV l z) H
noncomputable def Bs (l:List (Str×Cst)):PyData->Option PR
 | .str z=>match kgV l z with | .non=>none | _=>some (.dat (kgD l z))
 | _=>none
noncomputable def xB (l:List (Str×Cst)):Prm:=Prm.one (fun _=>E4 l) (Bs l) fun K F H x u pr Q hf hx hd q=>by
 unfold Bs at hf;split at hf
 ·split at hf
  ·cases hf
  ·rename_i c;cases hf;obtain ⟨rfl,_⟩:=vStr hx;exact ⟨_,rfl,fun e=>c e,q _ H (ay.rf H) (Dt l _ K F H)⟩
 ·cases hf
section
variable {X:Cx} {o e:Expr} {pos:Pos} {te:TE} {a:Addr} {l:List (Str×Cst)}
theorem Fq (ho:JE X o (tC (.ref a))) (hk:KG X.w X.K a l) (he:JE X e te) (hs:EL e):JE X (.Subscript o e pos) (tCB ((xB l).r X.K) (jA te v7)):=⟨by
 intro pins s σ H Q I h;obtain ⟨es,n,hl,hks,hsm,hf⟩:=hk;have h:te σ H fun y H2=>E4 l y H2 Q:=h;refine wO PySem.F.slot_dict_getitem.lookup hs (thn (ho.h pins s σ H (fun x H1=>x=.ref a/\H1=H) I ⟨rfl,rfl⟩) fun u s1 ⟨x,H1,I1,rx,ex,eH⟩=>?_);subst ex eH;obtain rfl:u=Value.ref a:=rx;refine thn (he.h pins s1 σ H1 _ I1 h) fun iv s2 ⟨y,H2,I2,ry,z,ey,nn,q2⟩=>?_;subst ey;obtain ⟨t,rfl⟩:=ry;have hm2:s2.heap.MapOf (PySem.strKind X.prog X.w) a (fun k=>findBy Value.isStrOf es k):=PySem.W.mapOf_K I2.kIn hl hks;have hz:=hf z;cases hv:findBy Value.isStrOf es z with
 | none =>
  rw [hv] at hz;exfalso;apply nn;generalize kgV l z=v at hz;cases v <;> first | rfl | (obtain ⟨_,hz⟩:=hz;cases hz) | cases hz
 | some v =>
  rw [hv] at hz
  exact ⟨hm2.typeIs,wpAny_getItem_of (strKind_is X.prog X.w z t) hm2 hv ⟨_,H2,I2.tok _,hz,q2⟩⟩⟩
end
open PySem PySem.Spec PyProof.Rows
theorem oB {S:KS} {e:En} {x:AV} {ds:List PyData} {Q:RV->En->Prop} (h1:aG e [x]=some [.list ds]) (h2:ds.length < 300) (h3:okS S ds) (q:Q (.frs (.list (fG S ds))) e):WPr (j3 S) [x] e Q :=
 ⟨_,.frs (.list (fG S ds)),h1,by show nR S (.list ds)=_;exact Gs ⟨h2,fM.mpr h3⟩,q⟩
theorem oG {S:KS} {e:En} {x:AV} {ds:List PyData} {Q:RV->En->Prop} (h1:aG e [x]=some [.list ds]) (h2:∀ d∈ds,hk6 d=true/\txB d=true) (h3:(ds.foldl bT []).length < 300) (h4:okS S (ds.foldl bT [])) (q:Q (.frs (.list (fG S (ds.foldl bT [])))) e):WPr (hU S) [x] e Q :=
 ⟨_,.frs (.list (fG S (ds.foldl bT []))),h1,by show qQ S (.list ds)=_;exact Gs ⟨IZ.mpr fun d hd=>by simpa using h2 d hd,h3,fM.mpr h4⟩,q⟩
open PySem PySem.Spec PyProof.Rows PySem.W
theorem Fl {X:Cx} {tg e:Expr} {te:TE} (h:JE X e te):JI X tg e (E5 X.K te):=⟨fun pins s σ H R I q=>q.elim (pI h.h pins s σ H R I) (uT h.h pins s σ H R I)⟩
open PySem PySem.Spec PyProof.Rows
section
variable {X:Cx} {x:Str} {p pos:Pos} {e:Expr} {es:List Expr} {t:TA} {f:Addr} {fd:FuncData} {ps:List Str} {sp:Sp} {k m:Nat} {r:List V->Hp->VK->Prop} {id T:String}
theorem eVx (i:Nat) (a:X.N[i]?=some x:=by exact rfl) (b:Vis X.env.scope x:=by exact .inl rfl) (c:(x==("__debug__" : Str))=false:=by exact rfl) (d:(x==("__classdict__" : Str))=false:=by exact rfl):JE X (.Name x pos) (qZ i):=EV i a b c d
theorem eVy (i:Nat) (a:X.N[i]?=some x:=by exact rfl) (b:Vis X.env.scope x:=by exact .inr (.inl rfl)) (c:(x==("__debug__" : Str))=false:=by exact rfl) (d:(x==("__classdict__" : Str))=false:=by exact rfl):JE X (.Name x pos) (qZ i):=EV i a b c d
theorem eCl (F:bN X.prog X.w X.K X.mg X.base CX0 k f fd ps sp) (hr:eD m X.A) (hm:X.mg x=some (.ref f)) (hk:PySem.W.keepIn X.K (.ref f)=true) (hb:Binds X.K fd ps []) (ha:JA X (e :: es) t)
  (a:k<=m:=by omega) (b:Gl X x:=by exact rfl) (h1:PySem.W.isStarred e=false:=by exact rfl) (h2:es.all (fun e=>!PySem.W.isStarred e)=true:=by exact rfl) (c:(x==("__debug__" : Str))=false:=by exact rfl):JE X (.Call (.Name x p) (e :: es) [] pos) (pW sp [] E0 t) :=
 zK F (hr.mono a) b hm hk hb .nil yX ha h1 h2 c
theorem eBs (hc:az X (.builtin id) r) (hm:X.mg x=none) (ha:JA X (e :: es) t) (a:Gl X x:=by exact rfl) (hv:bootBuiltins x=some (.builtin id):=by decide +kernel) (h1:PySem.W.isStarred e=false:=by exact rfl) (h2:es.all (fun e=>!PySem.W.isStarred e)=true:=by exact rfl)
  (hn:x ≠ "__name__" := by decide) (c:(x==("__debug__" : Str))=false:=by exact rfl):JE X (.Call (.Name x p) (e :: es) [] pos) (tCB r t):=eB hc a hm hv ha h1 h2 hn c
theorem eTs (hc:az X (.type T) r) (hm:X.mg x=none) (ha:JA X (e :: es) t) (a:Gl X x:=by exact rfl) (hv:bootBuiltins x=some (.type T):=by decide +kernel) (h1:PySem.W.isStarred e=false:=by exact rfl) (h2:es.all (fun e=>!PySem.W.isStarred e)=true:=by exact rfl)
  (hn:x ≠ "__name__" := by decide) (c:(x==("__debug__" : Str))=false:=by exact rfl):JE X (.Call (.Name x p) (e :: es) [] pos) (tCB r t):=eTy hc a hm hv ha h1 h2 hn c
end
theorem Fun.okX {P:Program} {w:World} {K:Fg} {mg:Str->Option Value} {base:Heap} {x qual:Str} {st:Stmt} {f:Addr} {fd:FuncData} {N ps:List Str} {k:Nat} {b:XS} {gd:List PyData} {ga:Nat->V} {ms:List PM} {rd:TS}
  (F:Fun K x qual st f fd) (S:aq N ps (aa st)) (hg:∀ g d,gd[g]?=some d->∀ F H,Dm K F H d (ga g)) (e:rd=rS K ga b)
  (j:∀ {cdv:Value} {A:Around} {outer:List Env} {s:Shared} {H:Hp} {E:XK},eD k (A.deeper (envOfC qual (aa st) s.heap.objs.size f cdv))->JSs (sJ CX0 P w K mg base N qual (aa st) f cdv A outer s H E).nox (cp st) rd)
  (hl:ms.length<=N.length:=by decide) (hp:ms.length=ps.length:=by exact rfl):bN P w K mg base CX0 (k+1) f fd ps (fK (gS gd ms N.length b) K) :=
 F.okJ S (fun vs H Q E h=>(tI h).trans hp) fun cdv A outer s H vs Q E hr h=>⟨rd,j hr,by rw [e];exact wz (N:=N) hg h hl⟩
open PySem PySem.Spec PyProof.Rows
structure Fa (K:Fg) (mg:Str->Option Value) (x:Str) (st:Stmt) (ps:List Str) (a:Addr×FuncData):Prop where
 F:Fun K x x st a.1 a.2
 c:∀ us:List Value,us.length=ps.length->bindArgs a.2 ⟨us,[]⟩=pure (ps.zip us)
 m:mg x=some (.ref a.1)
section
variable {K:Fg} {mg:Str->Option Value} {x:Str} {st:Stmt} {ps:List Str} {a:Addr×FuncData} {h:Heap} {f:Addr} {od an:Option Addr} {sl:Array (Option Value)} {oc kV dc pm cd ct:Value}
theorem Fa.b (D:Fa K mg x st ps a):Binds K a.2 ps []:=.all D.c
def xw (K:Fg) (mg:Str->Option Value):List (Str×Stmt×List Str)->Prop
 | []=>True
 | (x,st,ps) :: r=>(∃ a,Fa K mg x st ps a)/\xw K mg r
theorem BJ {r:List (Str×Stmt×List Str)} (X:K.In h) (G:h.Ns mainGlobals mg) (a:PySem.W.nsIn K mainGlobals x=some (some (.ref f))) (l:K.lookup f=some ⟨oc,od,.func (PySem.W.fnOf x x (gQ st) (cp st) (aa st) .none kV dc pm an cd ct),sl⟩) (c:PySem.W.codeIn K cd x=true) (k:PySem.W.keepIn K (.ref f)=true)
  (hb:∀ (kV dc pm:Value) (an:Option Addr) (cd ct:Value) (us:List Value),us.length=ps.length->bindArgs (PySem.W.fnOf x x (gQ st) (cp st) (aa st) .none kV dc pm an cd ct) ⟨us,[]⟩=pure (ps.zip us)) (hr:xw K mg r):xw K mg ((x,st,ps) :: r) :=
 ⟨⟨(f,_),yK l c k,hb _ _ _ _ _ _,PySem.W.mg_of X G a⟩,hr⟩
theorem yH (a0:Addr×FuncData):∀ {l:List (Str×Stmt×List Str)},xw K mg l->∃ f:Nat->Addr×FuncData,∀ i {x st ps},l[i]?=some (x,st,ps)->Fa K mg x st ps (f i)
 | [],_=>⟨fun _=>a0,fun i x st ps h=>by cases h⟩
 | (y,st,ps) :: r,⟨⟨a,ha⟩,hr⟩=>by
  obtain ⟨f,hf⟩:=yH a0 hr;refine ⟨fun i=>i.casesOn a f,fun i x st ps h=>?_⟩;cases i with
  | zero=>cases h;exact ha
  | succ i=>exact hf i h
theorem FH {e:Str×Stmt×List Str} {l:List (Str×Stmt×List Str)} (D:xw K mg (e :: l)):∃ f:Nat->Addr×FuncData,∀ i {x st ps},(e :: l)[i]?=some (x,st,ps)->Fa K mg x st ps (f i):=by
 obtain ⟨y,st,ps⟩:=e;have ⟨⟨a,_⟩,_⟩:=D;exact yH a D
end
theorem us1 {P:List Value->Prop} (h:∀ a,P [a]):∀ us:List Value,us.length=1->P us
 | [a],_=>h a
theorem us2 {P:List Value->Prop} (h:∀ a b,P [a,b]):∀ us:List Value,us.length=2->P us
 | [a,b],_=>h a b
theorem us3 {P:List Value->Prop} (h:∀ a b c,P [a,b,c]):∀ us:List Value,us.length=3->P us
 | [a,b,c],_=>h a b c
theorem us4 {P:List Value->Prop} (h:∀ a b c d,P [a,b,c,d]):∀ us:List Value,us.length=4->P us
 | [a,b,c,d],_=>h a b c d
theorem us5 {P:List Value->Prop} (h:∀ a b c d e,P [a,b,c,d,e]):∀ us:List Value,us.length=5->P us
 | [a,b,c,d,e],_=>h a b c d e
theorem scm {N P:List Str} {sc:Scope} (a:sc.kind=.function:=by exact rfl) (b:sc.isCoroutine=false:=by exact rfl) (c:sc.isGenerator=false:=by exact rfl) (d:N.Nodup:=by decide +kernel) (e:N.take P.length=P:=by exact rfl) (f:∀ x∈P,sc.names.lookup x=some .local\/sc.names.lookup x=some .cell:=by decide +kernel) (g:∀ y∈sc.names,y.2≠.free:=by decide +kernel):aq N P sc:=⟨a,b,c,d,e,f,g⟩
theorem Fa.ok {P:Program} {w:World} {K:Fg} {mg:Str->Option Value} {base:Heap} {x:Str} {st:Stmt} {a:Addr×FuncData} {N ps:List Str} {k:Nat} {b:XS} {gd:List PyData} {ga:Nat->V} {ms:List PM}
  (D:Fa K mg x st ps a) (S:aq N ps (aa st)) (hg:∀ g d,gd[g]?=some d->∀ F H,Dm K F H d (ga g))
  (j:∀ {cdv:Value} {A:Around} {outer:List Env} {s:Shared} {H:Hp} {E:XK},eD k (A.deeper (envOfC x (aa st) s.heap.objs.size a.1 cdv))->JSs (sJ CX0 P w K mg base N x (aa st) a.1 cdv A outer s H E).nox (cp st) (rS K ga b))
  (hl:ms.length<=N.length:=by decide) (hp:ms.length=ps.length:=by exact rfl):bN P w K mg base CX0 (k+1) a.1 a.2 ps (fK (gS gd ms N.length b) K) :=
 D.F.okX S hg rfl j hl hp
section
variable {X:Cx} {x:Str} {p p2 pos pos':Pos} {e a b:Expr} {es:List Expr} {t:TA} {te ta tb:TE} {ps:List Str} {sp:Sp} {k m i:Nat} {r:List V->Hp->VK->Prop} {T:String} {st:Stmt} {q:Addr×FuncData}
theorem eCx (F:bN X.prog X.w X.K X.mg X.base CX0 k q.1 q.2 ps sp) (hr:eD m X.A) (D:Fa X.K X.mg x st ps q) (ha:JA X (e :: es) t)
  (a:k<=m:=by omega) (b:Gl X x:=by exact rfl) (h1:PySem.W.isStarred e=false:=by exact rfl) (h2:es.all (fun e=>!PySem.W.isStarred e)=true:=by exact rfl) (c:(x==("__debug__" : Str))=false:=by exact rfl):JE X (.Call (.Name x p) (e :: es) [] pos) (pW sp [] E0 t) :=
 zK F (hr.mono a) b D.m D.F.kp D.b .nil yX ha h1 h2 c
theorem eAx (ha:JE X e te) (hr:JA X es t) (h:PySem.W.isStarred e=false:=by exact rfl):JA X (e :: es) (jA te t):=eA ha hr h
theorem eIy (ha:JE X a ta) (hb:JE X b tb) (hs:kI b:=by exact fun _ _=>rfl):JE X (.Subscript a b pos) (tOp (fun x y=>ixP.r X.K [x,y]) ta tb):=eIx uO ha hb hs
theorem eSx (hN:X.N.Nodup) (i:Nat) (he:JE X e te) (hi:X.N[i]?=some x:=by exact rfl) (hx:Loc X.env.scope x:=by exact .inl rfl) (hs:swapsWith e (some (.Name x pos')) pos.line X.env=pure false:=by exact rfl) (hf:X.fn x=true\/X.env.scope.names.lookup x=some .local:=by exact .inl rfl) :
  JS X (.Assign [.Name x pos'] e pos) (pP te (cL i)):=E2 he hN hi hx hs hf
theorem eSy (hN:X.N.Nodup) (i:Nat) (he:JE X e te) (hi:X.N[i]?=some x:=by exact rfl) (hx:Loc X.env.scope x:=by exact .inr rfl) (hs:swapsWith e (some (.Name x pos')) pos.line X.env=pure false:=by exact rfl) (hf:X.fn x=true\/X.env.scope.names.lookup x=some .local:=by exact .inl rfl) :
  JS X (.Assign [.Name x pos'] e pos) (pP te (cL i)):=E2 he hN hi hx hs hf
theorem eGx (hN:X.N.Nodup) (i:Nat) (hi:X.N[i]?=some x:=by exact rfl) (hx:Loc X.env.scope x:=by exact .inl rfl) (hf:X.fn x=true\/X.env.scope.names.lookup x=some .local:=by exact .inl rfl):JG X (.Name x pos) (cL i):=eGN hN hi hx hf
theorem eTx {op:CmpOp} {r:R2} (ho:OpR X (compareOp op) r) (ha:JE X a ta) (hb:JE X b tb) (hm:behindInMarks op b=false:=by exact fc _):JT X (.Compare a [op] [b] pos) (vB (tOp r ta tb)):=kE ho ha hb hm
theorem eFx {iter tg:Expr} {body:List Stmt} {wi:TI} {g:TG} {tb:TS} (hi:JI X tg iter wi) (hg:JG X tg g) (hb:JSs X body tb) (hp:PassesOwn (model X.prog X.w) X.A X.env X.xe:=by exact PassesOwn.never) (hc:X.calm=true:=by exact rfl) (hs:∀ x,foldedSetIterable iter X.env x=pure x:=by exact fun _=>rfl):JS X (.For tg iter body [] pos) (zy wi g tb):=Fb hi hg hb hp hc hs
theorem eUy (ha:JE X a ta):JE X (.UnaryOp .USub a pos) (tCB (D9.r X.K) (jA ta v7)):=eUn yM ha
theorem eKx {elt iter:Expr} {px:Pos} {ifs:List Expr} {scope:Scope} {wi:TI} {tt:TT} {js:List Nat} (ys:List Str) (hi:JI X (.Name x px) iter wi) (ht:JTs X (x :: ys) scope ifs tt) (he:JC X (x :: ys) scope elt te) (B:fz X scope x) (cap:cz X scope ys js)
  (hc:X.calm=true:=by exact rfl) (nd:(x :: ys).Nodup:=by decide +kernel) (hs:∀ x,foldedSetIterable iter X.env x=pure x:=by exact fun _=>rfl):JE X (.ListComp elt [⟨.Name x px,iter,ifs,0⟩] scope pos) (nu js wi tt te):=C9 ys hi ht he hc B nd cap hs
end
abbrev vr (i:Nat):XE:=.var i
abbrev ci (i:Int):XE:=.cst (.i i)
abbrev cs (x:String) (h:(Str.ofString x).length<=sizeLine:=by decide +kernel):XE:=.cst (.s x h (aC x))
abbrev p1 (p:Prm) (a:XE):XE:=.prm p (.cons a .nil)
abbrev p2 (p:Prm) (a b:XE):XE:=.prm p (.cons a (.cons b .nil))
open PySem PySem.Spec PyProof.Rows
mutual
theorem uF:∀ {d:PyData},noD d=true->d.hasDict=false
 | .none,_=>rfl
 | .bool _,_=>rfl
 | .int _,_=>rfl
 | .str _,_=>rfl
 | .list xs,h=>by simpa [PyData.hasDict] using kr (ds:=xs) (by simpa [noD] using h)
 | .tuple xs,h=>by simpa [PyData.hasDict] using kr (ds:=xs) (by simpa [noD] using h)
 | .dict _,h=>by simp [noD] at h
theorem kr:∀ {ds:List PyData},dN ds=true->PyData.hasDictAll ds=false
 | [],_=>by simp [PyData.hasDictAll]
 | d :: ds,h=>by
  have h':noD d=true/\dN ds=true:=by simpa [dN] using h
  simp [PyData.hasDictAll,uF h'.1,kr h'.2]
end
noncomputable def u0 (d:PyData):Bool:=noD d&&(d.showable&&(decide (d.depth<=60)&&(decide (d.shown.length<=sizeLine)&&PyData.strOk d.shown)))
theorem iZ {d:PyData}:u0 d=true↔noD d=true/\d.showable=true/\d.depth<=60/\d.shown.length<=sizeLine/\PyData.strOk d.shown=true:=by simp [u0]
def Dl (K:Fg):V->Hp->VK->Prop:=fun x H Q=>∃ F d,Vw K F H d x/\u0 d=true/\Q (.str d.shown) H
noncomputable def kb:Prm:=Prm.one Dl (fun d=>if u0 d=true then some (.dat (.str d.shown)) else none) fun K F H x u pr Q hf hx hd q=>by
 split at hf
 ·rename_i h;cases hf;have h':=iZ.mp h;exact ⟨F,x,hx,h,q _ H (ay.rf H) ⟨rfl,h'.2.2.2.1,h'.2.2.2.2⟩⟩
 ·cases hf
theorem fI {X:Cx} {k:Nat} (hr:eD k X.A):az X (.builtin "repr") (kb.r X.K):=by
 intro pins s σ H xs us Q I r h;obtain ⟨v,rfl⟩:∃ v,xs=[v]:=by
  match xs,h with
  | [v],_=>exact ⟨v,rfl⟩
 obtain ⟨F,d,hd,ho,q⟩:=h;obtain ⟨h0,h1,h3,h4,_⟩:=iZ.mp ho;obtain ⟨u,rfl,ru⟩:=vals1 r;obtain ⟨as,rd⟩:=hd.reads I h0 ru;have hu:=hr.units;have fin:∀ h' tk t,(∀ b o,s.heap.get? b=some o->h'.get? b=some o)->EP X pins σ Q (.str d.shown t) { s with heap:=h',toks:=tk }:=fun h' tk t k=>⟨.str _,H,I.kept k,⟨t,rfl⟩,q⟩;have hn:=uF h0;cases rd with
 | none=>exact P.repr_of_none (fin _ _ _ fun _ _ e=>e)
 | bool b=>exact P.repr_of_bool (fin _ _ _ fun _ _ e=>e)
 | int i t=>exact P.repr_of_int (by simpa [PyData.showable] using h1) (fin _ _ _ fun _ _ e=>e)
 | str y t=>exact P.repr_of_str (fin _ _ _ fun _ _ e=>e) h4
 | list e c dd ra=>exact repr_of_reads' (.list e c dd ra) h1 (fun z=>by rw [hn] at z;cases z) hr.gd (by omega) (fun _ _ e=>e) (fun h' u tk k=>fin h' tk u k) h4
 | tuple e c dd ra=>exact repr_of_reads' (.tuple e c dd ra) h1 (fun z=>by rw [hn] at z;cases z) hr.gd (by omega) (fun _ _ e=>e) (fun h' u tk k=>fin h' tk u k) h4
 | dict e c dd ra rb=>simp [PyData.hasDict] at hn
theorem lC {e:En} {x:AV} {d:PyData} {Q:RV->En->Prop} (h1:aG e [x]=some [d]) (h2:u0 d=true) (q:Q (.dat (.str d.shown)) e):WPr kb [x] e Q :=
 ⟨_,.dat (.str d.shown),h1,by show (if u0 d=true then _ else _)=_;exact Gs h2,q⟩
end L2
end
set_option bootstrap.genMatcherCode true
section
namespace K26
open PySem PySem.Spec PyProof.Rows L2
noncomputable def top (i:Nat):Stmt:=PySem.Challenge.pw_webshapes_k26_what_hangs_on_what.main.body.getD i (.Pass ⟨0,0,0,0⟩)
noncomputable abbrev bK:Stmt:=top 3
noncomputable abbrev bj:Stmt:=top 6
noncomputable abbrev bo:Stmt:=top 7
noncomputable abbrev fi:Stmt:=top 8
noncomputable abbrev jx:Stmt:=top 10
noncomputable abbrev oK:Stmt:=top 12
noncomputable abbrev mh:Stmt:=top 13
noncomputable abbrev fW:Stmt:=top 14
noncomputable abbrev mn:Stmt:=top 15
noncomputable abbrev lA:Stmt:=top 16
noncomputable abbrev gE:Stmt:=top 17
noncomputable abbrev fO:Stmt:=top 18
noncomputable abbrev fx:Stmt:=top 19
noncomputable abbrev jM:Stmt:=top 20
noncomputable abbrev gW:Stmt:=top 21
noncomputable abbrev cY:Stmt:=top 22
noncomputable abbrev oQ:Stmt:=top 23
noncomputable def dfs:List (Str×Stmt×List Str):=[("straight_parts", bK,["form"]),("signs_within", bj,["form", "signs"]),("signed_names", bo,["form", "signs"]),("signs_in", fi,["form"]),("hangs", jx,["shapes"]),("_law_pen", oK,["_law_script"]),("_law_draw", mh,["_law_pen_here", "_law_size"]),("_law_names", fW,["_law_pen_here", "_law_many"]),("_law_node", mn,["_law_pen_here", "_law_things"]),("_law_leaf", lA,["_law_pen_here", "_law_names_here", "_law_things"]),("_law_counted", gE,["_law_pen_here", "_law_free", "_law_tied", "_law_things"]),("_law_form", fO,["_law_pen_here", "_law_free", "_law_tied", "_law_things", "_law_deep"]),("_law_shuffled", fx,["_law_pen_here", "_law_some"]),("_law_signs", jM,["_law_form_here", "_law_sign"]),("_law_edges", gW,["_law_shapes"]),("_law_any_shapes", cY,["_law_pen_here"]),("law", oQ,["_law_script"])]
structure Adr where
 f:Nat->Addr×FuncData
 jb:Addr
 iQ:Addr
 jg:Addr
noncomputable def bJ:List (Str×Cst):=[("with", (.s "against" (by decide +kernel) (aC _))),("against", (.s "with" (by decide +kernel) (aC _)))]
structure Txt (w:World) (K:Fg) (mg:Str->Option Value) (t:Adr):Prop where
 d:∀ i {x st ps},dfs[i]?=some (x,st,ps)->Fa K mg x st ps (t.f i)
 z_abs:mg "abs" = none
 z_int:mg "int" = none
 z_len:mg "len" = none
 z_list:mg "list" = none
 z_min:mg "min" = none
 z_range:mg "range" = none
 z_repr:mg "repr" = none
 z_set:mg "set" = none
 z_sorted:mg "sorted" = none
 z_tuple:mg "tuple" = none
 g_LISTS:mg "LISTS" = some (.ref t.jb)
 g_TURNED:mg "TURNED" = some (.ref t.jg)
 g_WALKS:mg "WALKS" = some (.ref t.iQ)
 tL:KG w K t.jg bJ
 s_LISTS:∀ H,SqT K H t.jb [.str "all", .str "some", .str "one", .str "none"]
 s_WALKS:∀ H,SqT K H t.iQ [.str "many", .str "each"]
theorem bP:aq ["form", "head"] ["form"] (aa bK):=scm
theorem cK:aq ["form", "signs", "head"] ["form", "signs"] (aa bj):=scm
theorem a7:aq ["form", "signs", "found", "part"] ["form", "signs"] (aa bo):=scm
theorem kW:aq ["form"] ["form"] (aa fi):=scm
theorem dO:aq ["shapes", "found", "shape", "other", "sign"] ["shapes"] (aa jx):=scm
theorem x3:aq ["_law_script"] ["_law_script"] (aa oK):=scm
theorem dM:aq ["_law_pen_here", "_law_size", "_law_drawn", "_law_place", "_law_cell", "_law_number"] ["_law_pen_here", "_law_size"] (aa mh):=scm
theorem aB:aq ["_law_pen_here", "_law_many", "_law_letters", "_law_base", "_law_at", "_law_first", "_law_by", "_law_way", "_law_words", "_law_said", "_law_some", "_law_k", "_law_sign", "_law_name"] ["_law_pen_here", "_law_many"] (aa fW):=scm
theorem p8:aq ["_law_pen_here", "_law_things", "_law_way"] ["_law_pen_here", "_law_things"] (aa mn):=scm
theorem qi:aq ["_law_pen_here", "_law_names_here", "_law_things", "_law_way"] ["_law_pen_here", "_law_names_here", "_law_things"] (aa lA):=scm
theorem aO:aq ["_law_pen_here", "_law_free", "_law_tied", "_law_things", "_law_word", "_law_low", "_law_high", "_law_bond", "_law_own", "_law_way", "_law_head", "_law_one"] ["_law_pen_here", "_law_free", "_law_tied", "_law_things"] (aa gE):=scm
theorem du:aq ["_law_pen_here", "_law_free", "_law_tied", "_law_things", "_law_deep", "_law_way", "_law_word", "_law_own", "_law_some"] ["_law_pen_here", "_law_free", "_law_tied", "_law_things", "_law_deep"] (aa fO):=scm
theorem dG:aq ["_law_pen_here", "_law_some", "_law_order", "_law_one"] ["_law_pen_here", "_law_some"] (aa fx):=scm
theorem bw:aq ["_law_form_here", "_law_sign", "_law_opposite", "_law_some", "_law_part"] ["_law_form_here", "_law_sign"] (aa jM):=scm
theorem cm:aq ["_law_shapes", "_law_some", "_law_name", "_law_word", "_law_form_here", "_law_told"] ["_law_shapes"] (aa gW):=scm
theorem aD:aq ["_law_pen_here", "_law_names_here", "_law_things", "_law_some", "_law_name", "_law_word", "_law_form_here"] ["_law_pen_here"] (aa cY):=scm
theorem fv:aq ["_law_script", "_law_pen_here", "_law_first", "_law_other", "_law_shapes", "_law_due", "_law_handed", "_law_told"] ["_law_script"] (aa oQ):=scm
noncomputable def gds:List PyData:=[.tuple [PyData.str "all", PyData.str "some", PyData.str "one", PyData.str "none"],.tuple [PyData.str "many", PyData.str "each"]]
noncomputable def gav (t:Adr):Nat->V:=fun g=>([.ref t.jb,.ref t.iQ]:List V)[g]?.getD .non
theorem cE {w:World} {K:Fg} {mg:Str->Option Value} {t:Adr} (T:Txt w K mg t):∀ g d,gds[g]?=some d->∀ F H,Dm K F H d (gav t g):=by
 intro g d h F H;rcases g with _ | g
 ·cases h;exact ⟨_,_,rfl,T.s_LISTS H,by decide,⟨_,_,rfl,⟨rfl,by decide +kernel,aC _⟩,⟨_,_,rfl,⟨rfl,by decide +kernel,aC _⟩,⟨_,_,rfl,⟨rfl,by decide +kernel,aC _⟩,⟨_,_,rfl,⟨rfl,by decide +kernel,aC _⟩,rfl⟩⟩⟩⟩⟩
 rcases g with _ | g
 ·cases h;exact ⟨_,_,rfl,T.s_WALKS H,by decide,⟨_,_,rfl,⟨rfl,by decide +kernel,aC _⟩,⟨_,_,rfl,⟨rfl,by decide +kernel,aC _⟩,rfl⟩⟩⟩
 cases h
noncomputable def eO:XS :=
 (.seq (.a6 1 (p2 ixP (vr 0) (ci 0)))
  (.seq (.ifs (.tst (p2 eqP (vr 1) (cs "not"))) (.ret (.tup (.cons (p2 ixP (vr 0) (ci 1)) .nil))) .skip)
  (.seq (.ifs (.tst (p2 inP (vr 1) (.glb 0))) (.ret (p2 ixP (vr 0) (ci 1))) .skip)
  (.seq (.ifs (.tst (p2 inP (vr 1) (.glb 1))) (.ret (.tup (.cons (p2 ixP (vr 0) (ci 4)) .nil))) .skip)
  (.ret (.tup .nil))))))
noncomputable def aQ:Fn:=gS gds [.dat] 2 eO
def eT (K:Fg):Sp:=fK aQ K
noncomputable def aj:XS :=
 (.seq (.a6 2 (p2 ixP (vr 0) (ci 0)))
  (.seq (.ifs (.or (.tst (p2 eqP (vr 2) (cs "one"))) (.and (.tst (p2 eqP (vr 2) (cs "many"))) (.tst (p2 lQ (p2 ixP (vr 0) (ci 2)) (.cst .n))))) (.ret (.lst (.cons (cs "against") (.cons (cs "with") .nil)))) .skip)
  (.seq (.ifs (.tst (p2 inP (vr 2) (.tup (.cons (cs "not") (.cons (cs "none") .nil))))) (.ret (.cmp [] (.lst (vr 1)) .yes (p1 (xB bJ) (vr 0)))) .skip)
  (.ret (vr 1)))))
noncomputable def bF:Fn:=gS gds [.dat,.dat] 3 aj
def gR (K:Fg):Sp:=fK bF K
noncomputable def bA (F_signed_names:Fn):XS :=
 (.seq (.ifs (.tst (p2 eqP (p2 ixP (vr 0) (ci 0)) (cs "keeps"))) (.ret (.cmp [0] (.lst (vr 1)) .yes (.tup (.cons (p2 ixP (vr 1) (ci 1)) (.cons (vr 0) .nil))))) .skip)
  (.seq (.ny 2 (.lst .nil))
  (.seq (.fr 3 (.tup (.call aQ (.cons (vr 0) .nil))) (.drop (.mtr EK 2 (.cons (.call F_signed_names (.cons (vr 3) (.cons (.call bF (.cons (vr 0) (.cons (vr 1) .nil))) .nil))) .nil))))
  (.ret (.tke 2)))))
noncomputable def au:Nat->Fn
 | 0=>Fn.no [.dat,.dat]
 | n+1=>gS gds [.dat,.dat] 4 (bA (au n))
def cO (K:Fg) (n:Nat):Sp:=fK (au n) K
noncomputable def gs:XS :=
 (.ret (p1 (hU tyS) (.call (au 5) (.cons (vr 0) (.cons (.lst (.cons (cs "with") .nil)) .nil)))))
noncomputable def dq:Fn:=gS gds [.dat] 1 gs
def kM (K:Fg):Sp:=fK dq K
noncomputable def dR:XS :=
 (.seq (.ny 1 (.lst .nil))
  (.seq (.fr 2 (.sq (vr 0)) (.frT [3,4] (.lst (.call dq (.cons (p2 ixP (vr 2) (ci 2)) .nil))) (.drop (.mtr zZ 1 (.cons (.tup (.cons (p2 ixP (vr 2) (ci 0)) (.cons (vr 3) (.cons (vr 4) .nil)))) .nil)))))
  (.ret (p1 (j3 tyS) (vr 1)))))
noncomputable def bt:Fn:=gS gds [.dat] 5 dR
def sW (K:Fg):Sp:=fK bt K
noncomputable def yJ:XS :=
 (.ret (.lst (.cons (vr 0) (.cons (ci 0) (.cons (ci 0) .nil)))))
noncomputable def oH:Fn:=gS gds [.dat] 1 yJ
def Ad (K:Fg):Sp:=fK oH K
noncomputable def nU:XS :=
 (.seq (.ifs (.tst (p2 gtP (p2 ixP (vr 0) (ci 2)) (ci 0))) (.seq (.a6 2 (p2 ou (p2 ixP (vr 0) (ci 2)) (vr 1)))
  (.seq (.sto wV 0 (ci 2) (p2 sv (p2 ixP (vr 0) (ci 2)) (vr 1)))
  (.ret (vr 2)))) .skip)
  (.seq (.a6 3 (p2 ixP (vr 0) (ci 1)))
  (.seq (.sto wV 0 (ci 1) (p2 cV (vr 3) (ci 1)))
  (.seq (.a6 4 (ci 5))
  (.seq (.ifs (.tst (p2 gtP (p1 nA (p2 ixP (vr 0) (ci 0))) (ci 0))) (.a6 4 (p2 ixP (p2 ixP (vr 0) (ci 0)) (p2 ou (vr 3) (p1 nA (p2 ixP (vr 0) (ci 0)))))) .skip)
  (.seq (.ifs (.and (.tst (p2 ltP (vr 3) (p1 nA (p2 ixP (vr 0) (ci 0))))) (.tst (p2 geP (p1 Bx (vr 4)) (p2 Am (ci 10) (ci 18))))) (.seq (.sto wV 0 (ci 2) (p2 sv (p1 Bx (vr 4)) (vr 1)))
  (.ret (p2 ou (p1 Bx (vr 4)) (vr 1)))) .skip)
  (.seq (.a6 5 (p2 ou (p2 xt (p2 cV (p2 cV (p2 ou (vr 4) (ci 2147483629)) (p2 xt (ci 40503) (vr 3))) (ci 17)) (ci 48271)) (ci 2147483647)))
  (.seq (.a6 5 (p2 ou (p2 xt (vr 5) (p2 cV (p2 cV (p2 ou (vr 5) (ci 65521)) (p2 xt (ci 3) (vr 3))) (ci 7))) (ci 2147483587)))
  (.ret (p2 ou (p2 sv (vr 5) (ci 5)) (vr 1)))))))))))
noncomputable def af:Fn:=gS gds [.ino,.dat] 6 nU
def wo (K:Fg):Sp:=fK af K
noncomputable def lD:XS :=
 (.seq (.a6 2 (cs "abcdefghijklmnopqrstuvwxyz"))
  (.seq (.a6 3 (.met joinM (cs "") (.cons (.cmp [2,0] (.rng1 (.cons (.call af (.cons (vr 0) (.cons (ci 8) .nil))) .nil)) .yes (p2 ixP (vr 1) (.call af (.cons (vr 2) (.cons (ci 26) .nil))))) .nil)))
  (.seq (.a6 4 (.call af (.cons (vr 0) (.cons (p2 cV (p1 nA (vr 3)) (ci 1)) .nil))))
  (.seq (.a6 5 (.call af (.cons (vr 0) (.cons (ci 26) .nil))))
  (.seq (.a6 6 (p2 ixP (.lst (.cons (ci 1) (.cons (ci 3) (.cons (ci 5) (.cons (ci 7) (.cons (ci 9) (.cons (ci 11) (.cons (ci 15) (.cons (ci 17) (.cons (ci 19) (.cons (ci 21) (.cons (ci 23) (.cons (ci 25) .nil))))))))))))) (.call af (.cons (vr 0) (.cons (ci 12) .nil)))))
  (.seq (.a6 7 (.call af (.cons (vr 0) (.cons (ci 4) .nil))))
  (.seq (.a6 8 (.lst (.cons (cs "any") (.cons (cs "all") (.cons (cs "keeps") (.cons (cs "is") (.cons (cs "many") (.cons (cs "shape") (.cons (cs "least") (.cons (cs "node") (.cons (cs "with") (.cons (cs "kind") (.cons (cs "keep") .nil)))))))))))))
  (.seq (.a6 9 (p2 ixP (vr 8) (.call af (.cons (vr 0) (.cons (ci 11) .nil)))))
  (.seq (.ny 10 (.lst .nil))
  (.seq (.fr 11 (.rng1 (.cons (vr 1) .nil)) (.seq (.a6 12 (p2 ixP (vr 2) (p2 ou (p2 cV (vr 5) (p2 xt (vr 6) (vr 11))) (ci 26))))
  (.seq (.a6 13 (p2 cV (p2 cV (p2 EN (vr 3) (vr 4)) (vr 12)) (p2 Fd (vr 3) (vr 4))))
  (.seq (.ifs (.tst (p2 eqP (vr 7) (ci 1))) (.a6 13 (p2 cV (vr 12) (p2 EN (vr 3) (p2 ou (vr 11) (p2 cV (p1 nA (vr 3)) (ci 1)))))) .skip)
  (.seq (.ifs (.tst (p2 eqP (vr 7) (ci 3))) (.a6 13 (p2 cV (vr 9) (p2 vR (vr 12) (p1 xA (p2 gtP (vr 11) (ci 0)))))) .skip)
  (.drop (.mtr zZ 10 (.cons (vr 13) .nil))))))))
  (.ret (.tke 10))))))))))))
noncomputable def fN:Fn:=gS gds [.ino,.dat] 14 lD
def rR (K:Fg):Sp:=fK fN K
noncomputable def oq:XS :=
 (.seq (.a6 2 (.call af (.cons (vr 0) (.cons (ci 4) .nil))))
  (.seq (.ifs (.tst (p2 eqP (vr 2) (ci 0))) (.ret (p2 ixP (.lst (.cons (ci 0) (.cons (p1 D9 (ci 7)) (.cons (ci 12) (.cons (p2 xC (p2 Am (ci 10) (ci 30)) (ci 1)) (.cons (p2 xC (ci 1) (p2 Am (ci 10) (ci 30))) .nil)))))) (.call af (.cons (vr 0) (.cons (ci 5) .nil))))) .skip)
  (.seq (.ifs (.tst (p2 eqP (vr 2) (ci 1))) (.ret (.tup (.cons (p2 ixP (.lst (.cons (cs "") (.cons (cs "ab") (.cons (cs "any") (.cons (cs "abcdefgh") .nil))))) (.call af (.cons (vr 0) (.cons (ci 4) .nil)))) .nil))) .skip)
  (.ret (p2 ixP (vr 1) (.call af (.cons (vr 0) (.cons (p1 nA (vr 1)) .nil))))))))
noncomputable def lj:Fn:=gS gds [.ino,.dat] 3 oq
def vL (K:Fg):Sp:=fK lj K
noncomputable def pM:XS :=
 (.seq (.a6 3 (.call af (.cons (vr 0) (.cons (ci 8) .nil))))
  (.seq (.ifs (.and (.tst (p2 ltP (vr 3) (ci 4))) (.tst (p2 gtP (p1 nA (vr 1)) (ci 0)))) (.ret (.tup (.cons (cs "keeps") (.cons (p2 ixP (vr 1) (.call af (.cons (vr 0) (.cons (p1 nA (vr 1)) .nil)))) .nil)))) .skip)
  (.seq (.ifs (.tst (p2 eqP (vr 3) (ci 4))) (.ret (.tup (.cons (p2 ixP (.lst (.cons (cs "from") (.cons (cs "upto") .nil))) (.call af (.cons (vr 0) (.cons (ci 2) .nil)))) (.cons (p2 ixP (.lst (.cons (ci 3) (.cons (p1 D9 (ci 2)) (.cons (ci 0) (.cons (p2 xC (p2 Am (ci 10) (ci 30)) (ci 1)) .nil))))) (.call af (.cons (vr 0) (.cons (ci 4) .nil)))) .nil)))) .skip)
  (.seq (.ifs (.tst (p2 eqP (vr 3) (ci 5))) (.ret (.tup (.cons (cs "is") (.cons (.call lj (.cons (vr 0) (.cons (vr 2) .nil))) .nil)))) .skip)
  (.ret (.tup (.cons (p2 ixP (.lst (.cons (cs "any") (.cons (cs "thing") (.cons (cs "number") (.cons (cs "said") .nil))))) (.call af (.cons (vr 0) (.cons (ci 4) .nil)))) .nil)))))))
noncomputable def dt:Fn:=gS gds [.ino,.dat,.dat] 4 pM
def v5 (K:Fg):Sp:=fK dt K
noncomputable def iD:XS :=
 (.seq (.a6 4 (p2 ixP (.lst (.cons (cs "many") (.cons (cs "each") .nil))) (.call af (.cons (vr 0) (.cons (ci 2) .nil)))))
  (.seq (.a6 5 (p2 ixP (.lst (.cons (ci 0) (.cons (ci 1) (.cons (ci 2) (.cons (ci 60) .nil))))) (.call af (.cons (vr 0) (.cons (ci 4) .nil)))))
  (.seq (.a6 6 (p2 ixP (.lst (.cons (.cst .n) (.cons (vr 5) (.cons (p2 E1 (ci 60) (p2 cV (vr 5) (ci 1))) .nil)))) (.call af (.cons (vr 0) (.cons (ci 3) .nil)))))
  (.seq (.a6 7 (p2 cV (p2 ixP (.lst (.cons (cs "") (.cons (cs "^") .nil))) (.call af (.cons (vr 0) (.cons (ci 2) .nil)))) (p2 ixP (vr 3) (.call af (.cons (vr 0) (.cons (p1 nA (vr 3)) .nil))))))
  (.seq (.a6 8 (p2 cV (vr 1) (p2 ixP (.lst (.cons (vr 2) (.cons (.lst .nil) .nil))) (p1 xA (.wt (p2 eqP (vr 4) (cs "many")) (p2 lQ (vr 6) (.cst .n)))))))
  (.seq (.a6 9 (.call af (.cons (vr 0) (.cons (ci 4) .nil))))
  (.seq (.a6 10 (.tup (.cons (vr 4) (.cons (vr 5) (.cons (vr 6) (.cons (vr 7) .nil))))))
  (.seq (.ifs (.tst (p2 eqP (vr 9) (ci 0))) (.ret (p2 cV (vr 10) (.tup (.cons (.tup (.cons (cs "not") (.cons (.call dt (.cons (vr 0) (.cons (vr 1) (.cons (vr 3) .nil)))) .nil))) .nil)))) .skip)
  (.seq (.a6 11 (.call dt (.cons (vr 0) (.cons (vr 8) (.cons (vr 3) .nil)))))
  (.seq (.ifs (.tst (p2 eqP (vr 9) (ci 1))) (.ret (p2 cV (vr 10) (.tup (.cons (.tup (.cons (cs "some") (.cons (.tup (.cons (vr 11) (.cons (.call dt (.cons (vr 0) (.cons (vr 8) (.cons (vr 3) .nil)))) .nil))) .nil))) .nil)))) .skip)
  (.ret (p2 cV (vr 10) (.tup (.cons (vr 11) .nil))))))))))))))
noncomputable def eG:Fn:=gS gds [.ino,.dat,.dat,.dat] 12 iD
def nt (K:Fg):Sp:=fK eG K
noncomputable def pQ (F_form:Fn):XS :=
 (.seq (.a6 5 (.call af (.cons (vr 0) (.cons (ci 9) .nil))))
  (.seq (.ifs (.or (.tst (p2 eqP (vr 4) (ci 0))) (.tst (p2 ltP (vr 5) (ci 2)))) (.ret (.call dt (.cons (vr 0) (.cons (p2 cV (vr 1) (vr 2)) (.cons (vr 3) .nil))))) .skip)
  (.seq (.ifs (.tst (p2 eqP (vr 5) (ci 2))) (.ret (.tup (.cons (cs "not") (.cons (.call F_form (.cons (vr 0) (.cons (vr 1) (.cons (.lst .nil) (.cons (vr 3) (.cons (p2 xC (vr 4) (ci 1)) .nil)))))) .nil)))) .skip)
  (.seq (.ifs (.tst (p2 ltP (vr 5) (ci 6))) (.seq (.a6 6 (p2 ixP (.lst (.cons (cs "all") (.cons (cs "some") (.cons (cs "one") (.cons (cs "none") .nil))))) (.call af (.cons (vr 0) (.cons (ci 4) .nil)))))
  (.seq (.a6 7 (p2 ixP (.lst (.cons (vr 2) (.cons (.lst .nil) .nil))) (p1 xA (p2 inP (vr 6) (.tup (.cons (cs "one") (.cons (cs "none") .nil)))))))
  (.seq (.a6 8 (.cmp [0,1,7,3,4] (.rng1 (.cons (.call af (.cons (vr 0) (.cons (ci 4) .nil))) .nil)) .yes (.call F_form (.cons (vr 1) (.cons (vr 2) (.cons (vr 3) (.cons (vr 4) (.cons (p2 xC (vr 5) (ci 1)) .nil))))))))
  (.ret (.tup (.cons (vr 6) (.cons (p1 lN (vr 8)) .nil))))))) .skip)
  (.seq (.ifs (.tst (p2 eqP (vr 5) (ci 6))) (.seq (.a6 8 (.cmp [3,0] (.rng1 (.cons (.call af (.cons (vr 0) (.cons (ci 4) .nil))) .nil)) .yes (p2 ixP (vr 1) (.call af (.cons (vr 2) (.cons (p1 nA (vr 1)) .nil))))))
  (.ret (.tup (.cons (cs "closed") (.cons (p1 lN (p1 vN (vr 8))) .nil))))) .skip)
  (.ret (.call eG (.cons (vr 0) (.cons (vr 1) (.cons (vr 2) (.cons (vr 3) .nil)))))))))))
noncomputable def gk:Nat->Fn
 | 0=>Fn.no [.ino,.dat,.dat,.dat,.dat]
 | n+1=>gS gds [.ino,.dat,.dat,.dat,.dat] 9 (pQ (gk n))
def n6 (K:Fg) (n:Nat):Sp:=fK (gk n) K
noncomputable def fY:XS :=
 (.seq (.ny 2 (.lst .nil))
  (.seq (.fr 3 (.lst (vr 1)) (.drop (.mtr EZ 2 (.cons (.call af (.cons (vr 0) (.cons (p2 cV (p1 nA (vr 2)) (ci 1)) .nil))) (.cons (vr 3) .nil)))))
  (.ret (.tke 2))))
noncomputable def dH:Fn:=gS gds [.ino,.dat] 4 fY
def kA (K:Fg):Sp:=fK dH K
noncomputable def bu (F_signs:Fn):XS :=
 (.seq (.a6 2 (p2 ixP (.lst (.cons (cs "with") (.cons (cs "against") .nil))) (p1 xA (p2 eqP (vr 1) (cs "with")))))
  (.seq (.ifs (.tst (p2 eqP (p2 ixP (vr 0) (ci 0)) (cs "keeps"))) (.ret (.lst (.cons (.tup (.cons (p2 ixP (vr 0) (ci 1)) (.cons (vr 1) .nil))) .nil))) .skip)
  (.seq (.ifs (.tst (p2 eqP (p2 ixP (vr 0) (ci 0)) (cs "not"))) (.ret (.call F_signs (.cons (p2 ixP (vr 0) (ci 1)) (.cons (vr 2) .nil)))) .skip)
  (.seq (.a6 3 (.lst .nil))
  (.seq (.ifs (.tst (p2 inP (p2 ixP (vr 0) (ci 0)) (.tup (.cons (cs "all") (.cons (cs "some") (.cons (cs "one") (.cons (cs "none") .nil))))))) (.fr 4 (.tup (p2 ixP (vr 0) (ci 1))) (.seq (.ifs (.tst (p2 neP (p2 ixP (vr 0) (ci 0)) (cs "none"))) (.a6 3 (p2 cV (vr 3) (.call F_signs (.cons (vr 4) (.cons (vr 1) .nil))))) .skip)
  (.ifs (.tst (p2 inP (p2 ixP (vr 0) (ci 0)) (.tup (.cons (cs "one") (.cons (cs "none") .nil))))) (.a6 3 (p2 cV (vr 3) (.call F_signs (.cons (vr 4) (.cons (vr 2) .nil))))) .skip))) .skip)
  (.seq (.ifs (.tst (p2 inP (p2 ixP (vr 0) (ci 0)) (.tup (.cons (cs "many") (.cons (cs "each") .nil))))) (.seq (.a6 3 (.call F_signs (.cons (p2 ixP (vr 0) (ci 4)) (.cons (vr 1) .nil))))
  (.ifs (.and (.tst (p2 eqP (p2 ixP (vr 0) (ci 0)) (cs "many"))) (.tst (p2 lQ (p2 ixP (vr 0) (ci 2)) (.cst .n)))) (.a6 3 (p2 cV (vr 3) (.call F_signs (.cons (p2 ixP (vr 0) (ci 4)) (.cons (vr 2) .nil))))) .skip)) .skip)
  (.ret (vr 3))))))))
noncomputable def aW:Nat->Fn
 | 0=>Fn.no [.dat,.dat]
 | n+1=>gS gds [.dat,.dat] 5 (bu (aW n))
def my (K:Fg) (n:Nat):Sp:=fK (aW n) K
noncomputable def lB:XS :=
 (.seq (.a6 1 (.lst .nil))
  (.seq (.frT [2,3,4] (.lst (vr 0)) (.seq (.a6 5 (.call (aW 5) (.cons (vr 4) (.cons (cs "with") .nil))))
  (.a6 1 (p2 cV (vr 1) (.xu ["_law_other", "_law_sign"] [2] (.lst (vr 5)) (.tup (.cons (vr 2) (.cons (vr 0) (.cons (vr 1) .nil)))))))))
  (.ret (p1 (hU tyS) (vr 1)))))
noncomputable def iO:Fn:=gS gds [.dat] 6 lB
def sh (K:Fg):Sp:=fK iO K
noncomputable def d5:XS :=
 (.seq (.a6 1 (.call fN (.cons (vr 0) (.cons (p2 ixP (.lst (.cons (.call af (.cons (vr 0) (.cons (ci 7) .nil))) (.cons (ci 12) .nil))) (p1 xA (p2 eqP (.call af (.cons (vr 0) (.cons (ci 8) .nil))) (ci 7)))) .nil))))
  (.seq (.a6 2 (.call fN (.cons (vr 0) (.cons (ci 2) .nil))))
  (.seq (.ny 3 (.lst .nil))
  (.seq (.fr 4 (.lst (.call dH (.cons (vr 0) (.cons (vr 1) .nil)))) (.seq (.a6 5 (p2 ixP (.lst (.cons (cs "least") (.cons (cs "greatest") .nil))) (.call af (.cons (vr 0) (.cons (ci 2) .nil)))))
  (.seq (.a6 6 (.call (gk 5) (.cons (vr 0) (.cons (vr 1) (.cons (.lst .nil) (.cons (vr 2) (.cons (.call af (.cons (vr 0) (.cons (ci 4) .nil))) .nil)))))))
  (.drop (.mtr zZ 3 (.cons (.tup (.cons (vr 4) (.cons (vr 5) (.cons (vr 6) .nil)))) .nil))))))
  (.ret (.tke 3))))))
noncomputable def br:Fn:=gS gds [.ino] 7 d5
def iJ (K:Fg):Sp:=fK br K
noncomputable def um:XS :=
 (.seq (.ny 1 (.call oH (.cons (vr 0) .nil)))
  (.seq (.a6 2 (.call br (.cons (vr 1) .nil)))
  (.seq (.a6 3 (.call br (.cons (vr 1) .nil)))
  (.seq (.fr 4 (.tup (.tup (.cons (vr 2) (.cons (vr 3) (.cons (vr 2) .nil))))) (.seq (.a6 5 (.call iO (.cons (vr 4) .nil)))
  (.seq (.a6 6 (p1 yD (vr 4)))
  (.seq (.ny 7 (.call bt (.cons (vr 6) .nil)))
  (.seq (.ifs (.or (.tst (p2 neP (p1 kb (vr 7)) (p1 kb (vr 5)))) (.tst (p2 neP (vr 6) (vr 4)))) (.ret (.cst (.b false))) .skip)
  (.seq (.drop (.mtr zZ 7 (.cons (.cst .n) .nil)))
  (.ifs (.tst (p2 neP (p1 kb (.call bt (.cons (p1 lN (vr 4)) .nil))) (p1 kb (vr 5)))) (.ret (.cst (.b false))) .skip)))))))
  (.ret (.wt (p2 eqP (.call bt (.cons (.lst .nil) .nil)) (.lst .nil)) (p2 eqP (.call bt (.cons (.lst (.cons (.tup (.cons (cs "a") (.cons (cs "least") (.cons (.tup (.cons (cs "not") (.cons (.tup (.cons (cs "keeps") (.cons (cs "a") .nil))) .nil))) .nil)))) .nil)) .nil)) (.lst (.cons (.tup (.cons (cs "a") (.cons (cs "a") (.cons (cs "against") .nil)))) .nil)))))))))
noncomputable def uS:Fn:=gS gds [.dat] 8 um
def oX (K:Fg):Sp:=fK uS K
section
variable (P:Program) (w:World) (K:Fg) (mg:Str->Option Value) (base:Heap) (t:Adr)
abbrev cu:=bN P w K mg base CX0 1 (t.f 0).1 (t.f 0).2 ["form"] (eT K)
abbrev c7:=bN P w K mg base CX0 1 (t.f 1).1 (t.f 1).2 ["form", "signs"] (gR K)
abbrev aV (l n:Nat):=bN P w K mg base CX0 l (t.f 2).1 (t.f 2).2 ["form", "signs"] (cO K n)
abbrev hZ:=bN P w K mg base CX0 9 (t.f 3).1 (t.f 3).2 ["form"] (kM K)
abbrev n5:=bN P w K mg base CX0 10 (t.f 4).1 (t.f 4).2 ["shapes"] (sW K)
abbrev Aq:=bN P w K mg base CX0 1 (t.f 5).1 (t.f 5).2 ["_law_script"] (Ad K)
abbrev fu:=bN P w K mg base CX0 1 (t.f 6).1 (t.f 6).2 ["_law_pen_here", "_law_size"] (wo K)
abbrev qJ:=bN P w K mg base CX0 2 (t.f 7).1 (t.f 7).2 ["_law_pen_here", "_law_many"] (rR K)
abbrev uM:=bN P w K mg base CX0 2 (t.f 8).1 (t.f 8).2 ["_law_pen_here", "_law_things"] (vL K)
abbrev nW:=bN P w K mg base CX0 3 (t.f 9).1 (t.f 9).2 ["_law_pen_here", "_law_names_here", "_law_things"] (v5 K)
abbrev jN:=bN P w K mg base CX0 4 (t.f 10).1 (t.f 10).2 ["_law_pen_here", "_law_free", "_law_tied", "_law_things"] (nt K)
abbrev jr (l n:Nat):=bN P w K mg base CX0 l (t.f 11).1 (t.f 11).2 ["_law_pen_here", "_law_free", "_law_tied", "_law_things", "_law_deep"] (n6 K n)
abbrev hV:=bN P w K mg base CX0 2 (t.f 12).1 (t.f 12).2 ["_law_pen_here", "_law_some"] (kA K)
abbrev gi (l n:Nat):=bN P w K mg base CX0 l (t.f 13).1 (t.f 13).2 ["_law_form_here", "_law_sign"] (my K n)
abbrev oo:=bN P w K mg base CX0 10 (t.f 14).1 (t.f 14).2 ["_law_shapes"] (sh K)
abbrev fo:=bN P w K mg base CX0 13 (t.f 15).1 (t.f 15).2 ["_law_pen_here"] (iJ K)
abbrev CY:=bN P w K mg base CX0 14 (t.f 16).1 (t.f 16).2 ["_law_script"] (oX K)
end
section
variable {P:Program} {w:World} {K:Fg} {mg:Str->Option Value} {base:Heap} {t:Adr} {n:Nat} {cdv:Value} {A:Around} {outer:List Env} {s:Shared} {H:Hp} {E:XK}
theorem eK (T:Txt w K mg t):cu P w K mg base t :=
 (T.d 0 rfl).ok bP (cE T) fun hr=>aw (eSx bP.nd 1 (eIy (eVx 0) ah)) (aw (dJ (eTx (aL hr.units) (eVx 1) aH) (a8 (b0 (cW (eAx (eIy (eVx 0) ah) ab)))) da) (aw (dJ (kE (gL hr.units) (eVx 1) (wK (v:=.ref t.jb) rfl T.g_LISTS rfl rfl) (by with_unfolding_all rfl)) (a8 (b0 (eIy (eVx 0) ah))) da) (aw (dJ (kE (gL hr.units) (eVx 1) (wK (v:=.ref t.iQ) rfl T.g_WALKS rfl rfl) (by with_unfolding_all rfl)) (a8 (b0 (cW (eAx (eIy (eVx 0) ah) ab)))) da) (a8 (b0 (cW ab))))))
theorem gU (T:Txt w K mg t):c7 P w K mg base t :=
 (T.d 1 rfl).ok cK (cE T) fun hr=>aw (eSx cK.nd 2 (eIy (eVx 0) ah)) (aw (dJ (eW (Cd (eTx (aL hr.units) (eVx 2) aH) (vX (eW (rQ (eTx (aL hr.units) (eVx 2) aH) (lP (eTx gh (eIy (eVx 0) ah) AX))))))) (a8 (b0 (cA (eAx aH (eAx aH ab))))) da) (aw (dJ (kE (gL hr.units) (eVx 2) (cW (eAx aH (eAx aH ab))) (by with_unfolding_all rfl)) (a8 (b0 (eKx [] (eIL (eVx 1)) eT0 (eC fun _ _ _ _=>(Fq (wK (v:=.ref t.jg) rfl T.g_TURNED rfl rfl) T.tL (eVx 0) (fun _ _=>rfl))) (bsc (sc:=aa bj) rfl (by decide +kernel)) trivial))) da) (a8 (b0 (eVx 1)))))
theorem fX (T:Txt w K mg t) (G0:cu P w K mg base t) (G2:aV P w K mg base t (3+n) n) (G1:c7 P w K mg base t):aV P w K mg base t (3+(n+1)) (n+1) :=
 ((T.d 2 rfl).ok a7 (cE T) fun hr=>aw (dJ (eTx (aL hr.units) (eIy (eVy 0) ah) aH) (a8 (b0 (eKx ["form"] (eIL (eVx 1)) eT0 (eC fun _ _ _ _=>(cW (eAx (eIy (eVy 1) ah) (eAx (eVx 0) ab)))) (bsc (sc:=aa bo) rfl (by decide +kernel)) ⟨rfl,⟨rfl,rfl⟩,trivial⟩))) da) (aw (eSx a7.nd 2 (cA ab)) (aw (eFx (eIT (eCx G0 hr (T.d 0 rfl) (eAx (eVy 0) ab))) (eGx a7.nd 3) (a8 (mI (eBM (eVx 2) (eAx (eCx G2 hr (T.d 2 rfl) (eAx (eVx 3) (eAx (eCx G1 hr (T.d 1 rfl) (eAx (eVy 0) (eAx (eVx 1) ab))) ab))) ab) mW Ij PySem.F.slot_list_extend PySem.F.type_list_extend rfl rfl rfl rfl rfl) rfl))) (a8 (b0 (eVx 2))))):aV P w K mg base t ((3+n)+1) (n+1)).mono (by omega)
theorem g7 (T:Txt w K mg t):aV P w K mg base t (2+1) 0 :=
 bN.no (k:=2) (T.d 2 rfl).F a7 fun vs H Q E h=>by obtain ⟨G,ds,is,pr,outs,hF,_⟩:=h;cases hF
theorem kg (T:Txt w K mg t) (G2:aV P w K mg base t 8 5):hZ P w K mg base t :=
 (T.d 3 rfl).ok kW (cE T) fun hr=>a8 (b0 (eST rfl hr.km rfl T.z_sorted rfl T.z_set rfl (eCx G2 hr (T.d 2 rfl) (eAx (eVx 0) (eAx (cA (eA aH ab rfl)) ab)))))
theorem sU (T:Txt w K mg t) (G3:hZ P w K mg base t):n5 P w K mg base t :=
 (T.d 4 rfl).ok dO (cE T) fun hr=>aw (eSx dO.nd 1 (cA ab)) (aw (eFx (Fl (eVx 0)) (eGx dO.nd 2) (a8 (eFx (eIL (eCx G3 hr (T.d 3 rfl) (eAx (eIy (eVx 2) ah) ab))) (eGT (n:=2) rfl (A4 (i:=3) dO.nd rfl (Or.inl rfl) (Or.inl rfl) (A4 (i:=4) dO.nd rfl (Or.inl rfl) (Or.inl rfl) Ew)) rfl rfl) (a8 (mI (eBM (eVx 1) (eAx (cW (eAx (eIy (eVx 2) ah) (eAx (eVx 3) (eAx (eVx 4) ab)))) ab) d8 Ij Jr Jq rfl rfl rfl rfl rfl) rfl))))) (a8 (b0 (eBs (qP hr.km) T.z_sorted (eAx (eVx 1) ab)))))
theorem yC (T:Txt w K mg t):Aq P w K mg base t :=
 (T.d 5 rfl).ok x3 (cE T) fun hr=>a8 (b0 (cA (eAx (eVx 0) (eAx ah (eA ah ab rfl)))))
theorem vz (T:Txt w K mg t):fu P w K mg base t :=
 (T.d 6 rfl).ok dM (cE T) fun hr=>aw (dJ (eTx lH (eIy (eVx 0) ah) ah) (aw (eSx dM.nd 2 (eOp bM (eIy (eVx 0) ah) (eVx 1))) (aw (D6 (eOp i5 (eIy (eVx 0) ah) (eVx 1)) (Eb (eVx 0) ah set_list (fun _=>rfl)) rfl rfl rfl) (a8 (b0 (eVx 2))))) da) (aw (eSx dM.nd 3 (eIy (eVx 0) ah)) (aw (D6 (eOp ar (eVx 3) ah) (Eb (eVx 0) ah set_list (fun _=>rfl)) rfl rfl rfl) (aw (eSx dM.nd 4 ah) (aw (dJ (eTx lH (eBs bE T.z_len (eAx (eIy (eVx 0) ah) ab)) ah) (a8 (eSx dM.nd 4 (eIy (eIy (eVx 0) ah) (eOp bM (eVx 3) (eBs bE T.z_len (eAx (eIy (eVx 0) ah) ab)))))) da) (aw (dJ (eW (rQ (eTx ma (eVx 3) (eBs bE T.z_len (eAx (eIy (eVx 0) ah) ab))) (lP (eTx AD (eBs kJ T.z_abs (eAx (eVx 4) ab)) (eOp iU ah ah))))) (aw (D6 (eOp i5 (eBs kJ T.z_abs (eAx (eVx 4) ab)) (eVx 1)) (Eb (eVx 0) ah set_list (fun _=>rfl)) rfl rfl rfl) (a8 (b0 (eOp bM (eBs kJ T.z_abs (eAx (eVx 4) ab)) (eVx 1))))) da) (aw (eSx dM.nd 5 (eOp bM (eOp gN (eOp ar (eOp ar (eOp bM (eVx 4) ah) (eOp gN ah (eVx 3))) ah) ah) ah)) (aw (eSx dM.nd 5 (eOp bM (eOp gN (eVx 5) (eOp ar (eOp ar (eOp bM (eVx 5) ah) (eOp gN ah (eVx 3))) ah)) ah)) (a8 (b0 (eOp bM (eOp i5 (eVx 5) ah) (eVx 1)))))))))))
theorem sG (T:Txt w K mg t) (G6:fu P w K mg base t):qJ P w K mg base t :=
 (T.d 7 rfl).ok aB (cE T) fun hr=>aw (eSy aB.nd 2 aH) (aw (eSx aB.nd 3 (eBM aH (eAx (eKx ["_law_letters", "_law_pen_here"] (eR1 rfl T.z_range (eAx (eCl G6 hr (T.d 6 rfl).m (T.d 6 rfl).F.kp (T.d 6 rfl).b (eA (eVy 0) (eA ah ab rfl) rfl)) ab) rfl) eT0 (eC fun _ _ _ _=>(eIy (eVy 1) (eCl G6 hr (T.d 6 rfl).m (T.d 6 rfl).F.kp (T.d 6 rfl).b (eA (eVy 2) (eA ah ab rfl) rfl)))) (bsc (sc:=aa fW) rfl (by decide +kernel)) ⟨rfl,⟨rfl,rfl⟩,⟨rfl,⟨rfl,rfl⟩,trivial⟩⟩) ab) rD PySem.F.plainAttrs_str PySem.F.slot_str_join PySem.F.type_str_join rfl rfl rfl rfl rfl)) (aw (eSx aB.nd 4 (eCx G6 hr (T.d 6 rfl) (eAx (eVy 0) (eAx (eOp ar (eBs bE T.z_len (eAx (eVx 3) ab)) ah) ab)))) (aw (eSx aB.nd 5 (eCx G6 hr (T.d 6 rfl) (eAx (eVy 0) (eAx ah ab)))) (aw (eSx aB.nd 6 (eIy (cA (eAx ah (eAx ah (eAx ah (eAx ah (eAx ah (eA ah (eA ah (eA ah (eA ah (eA ah (eA ah (eA ah ab rfl) rfl) rfl) rfl) rfl) rfl) rfl))))))) (eCx G6 hr (T.d 6 rfl) (eAx (eVy 0) (eAx ah ab))))) (aw (eSx aB.nd 7 (eCx G6 hr (T.d 6 rfl) (eAx (eVy 0) (eAx ah ab)))) (aw (eSx aB.nd 8 (cA (eAx aH (eAx aH (eAx aH (eAx aH (eAx aH (eAx aH (eAx aH (eAx aH (eA aH (eA aH (eA aH ab rfl) rfl) rfl))))))))))) (aw (eSx aB.nd 9 (eIy (eVx 8) (eCx G6 hr (T.d 6 rfl) (eAx (eVy 0) (eAx ah ab))))) (aw (eSx aB.nd 10 (cA ab)) (aw (eFx (eR1 rfl T.z_range (eAx (eVx 1) ab) rfl) (eGx aB.nd 11) (aw (eSx aB.nd 12 (eIy (eVy 2) (eOp bM (eOp ar (eVx 5) (eOp gN (eVx 6) (eVx 11))) ah))) (aw (eSx aB.nd 13 (eOp ar (eOp ar (eSl (orS nL (orS kO pJ)) (eVx 3) Cv (eP (eVx 4))) (eVx 12)) (eSl (orS nL (orS kO pJ)) (eVx 3) (eP (eVx 4)) Cv))) (aw (dJ (eTx (aL hr.units) (eVx 7) ah) (a8 (eSx aB.nd 13 (eOp ar (eVx 12) (eSl (orS nL (orS kO pJ)) (eVx 3) Cv (eP (eOp bM (eVx 11) (eOp ar (eBs bE T.z_len (eAx (eVx 3) ab)) ah))))))) da) (aw (dJ (eTx (aL hr.units) (eVx 7) ah) (a8 (eSx aB.nd 13 (eOp ar (eVx 9) (eOp tU (eVx 12) (eTs gm T.z_int (eAx (uB lH (eVx 11) ah (fc _)) ab)))))) da) (a8 (mI (eBM (eVx 10) (eAx (eVx 13) ab) d8 Ij Jr Jq rfl rfl rfl rfl rfl) rfl))))))) (a8 (b0 (eVx 10))))))))))))
theorem wx (T:Txt w K mg t) (G6:fu P w K mg base t):uM P w K mg base t :=
 (T.d 8 rfl).ok p8 (cE T) fun hr=>aw (eSx p8.nd 2 (eCx G6 hr (T.d 6 rfl) (eAx (eVx 0) (eAx ah ab)))) (aw (dJ (eTx (aL hr.units) (eVx 2) ah) (a8 (b0 (eIy (cA (eAx ah (eAx (eUy ah) (eAx ah (eAx (eOp gb (eOp iU ah ah) ah) (eA (eOp gb ah (eOp iU ah ah)) ab rfl)))))) (eCx G6 hr (T.d 6 rfl) (eAx (eVx 0) (eAx ah ab)))))) da) (aw (dJ (eTx (aL hr.units) (eVx 2) ah) (a8 (b0 (cW (eAx (eIy (cA (eAx aH (eAx aH (eAx aH (eAx aH ab))))) (eCx G6 hr (T.d 6 rfl) (eAx (eVx 0) (eAx ah ab)))) ab)))) da) (a8 (b0 (eIy (eVx 1) (eCx G6 hr (T.d 6 rfl) (eAx (eVx 0) (eAx (eBs bE T.z_len (eAx (eVx 1) ab)) ab))))))))
theorem wF (T:Txt w K mg t) (G6:fu P w K mg base t) (G8:uM P w K mg base t):nW P w K mg base t :=
 (T.d 9 rfl).ok qi (cE T) fun hr=>aw (eSx qi.nd 3 (eCx G6 hr (T.d 6 rfl) (eAx (eVx 0) (eAx ah ab)))) (aw (dJ (eW (rQ (eTx ma (eVx 3) ah) (lP (eTx lH (eBs bE T.z_len (eAx (eVx 1) ab)) ah)))) (a8 (b0 (cW (eAx aH (eAx (eIy (eVx 1) (eCx G6 hr (T.d 6 rfl) (eAx (eVx 0) (eAx (eBs bE T.z_len (eA (eVx 1) ab rfl)) ab)))) ab))))) da) (aw (dJ (eTx (aL hr.units) (eVx 3) ah) (a8 (b0 (cW (eAx (eIy (cA (eAx aH (eAx aH ab))) (eCx G6 hr (T.d 6 rfl) (eAx (eVx 0) (eAx ah ab)))) (eAx (eIy (cA (eAx ah (eAx (eUy ah) (eAx ah (eA (eOp gb (eOp iU ah ah) ah) ab rfl))))) (eCx G6 hr (T.d 6 rfl) (eAx (eVx 0) (eAx ah ab)))) ab))))) da) (aw (dJ (eTx (aL hr.units) (eVx 3) ah) (a8 (b0 (cW (eAx aH (eAx (eCx G8 hr (T.d 8 rfl) (eAx (eVx 0) (eAx (eVx 2) ab))) ab))))) da) (a8 (b0 (cW (eAx (eIy (cA (eAx aH (eAx aH (eAx aH (eAx aH ab))))) (eCx G6 hr (T.d 6 rfl) (eAx (eVx 0) (eAx ah ab)))) ab)))))))
theorem ni (T:Txt w K mg t) (G6:fu P w K mg base t) (G9:nW P w K mg base t):jN P w K mg base t :=
 (T.d 10 rfl).ok aO (cE T) fun hr=>aw (eSx aO.nd 4 (eIy (cA (eAx aH (eA aH ab rfl))) (eCx G6 hr (T.d 6 rfl) (eAx (eVx 0) (eA ah ab rfl))))) (aw (eSx aO.nd 5 (eIy (cA (eAx ah (eAx ah (eA ah (eA ah ab rfl) rfl)))) (eCx G6 hr (T.d 6 rfl) (eAx (eVx 0) (eAx ah ab))))) (aw (eSx aO.nd 6 (eIy (cA (eAx AX (eAx (eVx 5) (eAx (eBs (wk rfl) T.z_min (eA ah (eA (eOp ar (eVx 5) ah) ab rfl) rfl)) ab)))) (eCx G6 hr (T.d 6 rfl) (eAx (eVx 0) (eAx ah ab))))) (aw (eSx aO.nd 7 (eOp ar (eIy (cA (eAx aH (eAx aH ab))) (eCx G6 hr (T.d 6 rfl) (eAx (eVx 0) (eAx ah ab)))) (eIy (eVx 3) (eCx G6 hr (T.d 6 rfl) (eAx (eVx 0) (eAx (eBs bE T.z_len (eAx (eVx 3) ab)) ab)))))) (aw (eSx aO.nd 8 (eOp ar (eVx 1) (eIy (cA (eAx (eVx 2) (eAx (cA ab) ab))) (eTs gm T.z_int (eAx (Ep (uB (aL hr.units) (eVx 4) aH (fc _)) (Eo (uB gh (eVx 6) AX (fc _)))) ab))))) (aw (eSx aO.nd 9 (eCx G6 hr (T.d 6 rfl) (eAx (eVx 0) (eAx ah ab)))) (aw (eSx aO.nd 10 (cW (eAx (eVx 4) (eAx (eVx 5) (eAx (eVx 6) (eAx (eVx 7) ab)))))) (aw (dJ (eTx (aL hr.units) (eVx 9) ah) (a8 (b0 (eOp ar (eVx 10) (cW (eAx (cW (eAx aH (eAx (eCx G9 hr (T.d 9 rfl) (eAx (eVx 0) (eAx (eVx 1) (eAx (eVx 3) ab)))) ab))) ab))))) da) (aw (eSx aO.nd 11 (eCx G9 hr (T.d 9 rfl) (eAx (eVx 0) (eAx (eVx 8) (eAx (eVx 3) ab))))) (aw (dJ (eTx (aL hr.units) (eVx 9) ah) (a8 (b0 (eOp ar (eVx 10) (cW (eAx (cW (eAx aH (eAx (cW (eAx (eVx 11) (eAx (eCx G9 hr (T.d 9 rfl) (eAx (eVx 0) (eAx (eVx 8) (eAx (eVx 3) ab)))) ab))) ab))) ab))))) da) (a8 (b0 (eOp ar (eVx 10) (cW (eAx (eVx 11) ab))))))))))))))
theorem vJ (T:Txt w K mg t) (G6:fu P w K mg base t) (G9:nW P w K mg base t) (G11:jr P w K mg base t (7+n) n) (G10:jN P w K mg base t):jr P w K mg base t (7+(n+1)) (n+1) :=
 ((T.d 11 rfl).ok du (cE T) fun hr=>aw (eSx du.nd 5 (eCx G6 hr (T.d 6 rfl) (eAx (eVy 0) (eAx ah ab)))) (aw (dJ (eW (Cd (eTx (aL hr.units) (eVy 4) ah) (vX (eTx ma (eVx 5) ah)))) (a8 (b0 (eCx G9 hr (T.d 9 rfl) (eAx (eVy 0) (eAx (eOp ar (eVy 1) (eVx 2)) (eAx (eVy 3) ab)))))) da) (aw (dJ (eTx (aL hr.units) (eVx 5) ah) (a8 (b0 (cW (eAx aH (eAx (eCx G11 hr (T.d 11 rfl) (eAx (eVy 0) (eAx (eVy 1) (eAx (cA ab) (eAx (eVy 3) (eA (eOp gb (eVy 4) ah) ab rfl)))))) ab))))) da) (aw (dJ (eTx ma (eVx 5) ah) (aw (eSx du.nd 6 (eIy (cA (eAx aH (eAx aH (eAx aH (eAx aH ab))))) (eCx G6 hr (T.d 6 rfl) (eAx (eVy 0) (eAx ah ab))))) (aw (eSy du.nd 7 (eIy (cA (eAx (eVx 2) (eAx (cA ab) ab))) (eTs gm T.z_int (eAx (uB (gL hr.units) (eVx 6) (cW (eAx aH (eAx aH ab))) (by with_unfolding_all rfl)) ab)))) (aw (zM (i:=8) ["_law_pen_here", "_law_free", "_law_own", "_law_things", "_law_deep"] (eR1 rfl T.z_range (eAx (eCx G6 hr (T.d 6 rfl) (eAx (eVy 0) (eAx ah ab))) ab) rfl) eT0 (eC fun _ _ _ _=>(eCx G11 hr (T.d 11 rfl) (eAx (eVy 1) (eAx (eVy 2) (eAx (eVy 3) (eAx (eVy 4) (eAx (eOp gb (eVy 5) ah) ab))))))) du.nd rfl rfl rfl rfl (bsc (sc:=aa fO) rfl (by decide +kernel)) (by decide +kernel) ⟨rfl,⟨rfl,rfl⟩,⟨rfl,⟨rfl,rfl⟩,⟨rfl,⟨rfl,rfl⟩,⟨rfl,⟨rfl,rfl⟩,⟨rfl,⟨rfl,rfl⟩,trivial⟩⟩⟩⟩⟩ (fun _=>rfl)) (a8 (b0 (cW (eAx (eVx 6) (eAx (eTs gC T.z_tuple (eAx (eVx 8) ab)) ab)))))))) da) (aw (dJ (eTx (aL hr.units) (eVx 5) ah) (aw (zM (i:=8) ["_law_things", "_law_pen_here"] (eR1 rfl T.z_range (eAx (eCx G6 hr (T.d 6 rfl) (eAx (eVy 0) (eAx ah ab))) ab) rfl) eT0 (eC fun _ _ _ _=>(eIy (eVy 1) (eCx G6 hr (T.d 6 rfl) (eAx (eVy 2) (eAx (eBs bE T.z_len (eAx (eVy 1) ab)) ab))))) du.nd rfl rfl rfl rfl (bsc (sc:=aa fO) rfl (by decide +kernel)) (by decide +kernel) ⟨rfl,⟨rfl,rfl⟩,⟨rfl,⟨rfl,rfl⟩,trivial⟩⟩ (fun _=>rfl)) (a8 (b0 (cW (eAx aH (eAx (eTs gC T.z_tuple (eAx (eSS rfl rfl T.z_sorted rfl T.z_set rfl (eVx 8)) ab)) ab)))))) da) (a8 (b0 (eCx G10 hr (T.d 10 rfl) (eAx (eVy 0) (eAx (eVy 1) (eAx (eVx 2) (eAx (eVy 3) ab))))))))))):jr P w K mg base t ((7+n)+1) (n+1)).mono (by omega)
theorem A3 (T:Txt w K mg t):jr P w K mg base t (6+1) 0 :=
 bN.no (k:=6) (T.d 11 rfl).F du fun vs H Q E h=>by obtain ⟨G,ds,is,pr,outs,hF,_⟩:=h;cases hF
theorem kH (T:Txt w K mg t) (G6:fu P w K mg base t):hV P w K mg base t :=
 (T.d 12 rfl).ok dG (cE T) fun hr=>aw (eSx dG.nd 2 (cA ab)) (aw (eFx (eIL (eVx 1)) (eGx dG.nd 3) (a8 (mI (eBM (eVx 2) (eAx (eCx G6 hr (T.d 6 rfl) (eAx (eVx 0) (eAx (eOp ar (eBs bE T.z_len (eAx (eVx 2) ab)) ah) ab))) (eAx (eVx 3) ab)) qB Ij PySem.F.slot_list_insert PySem.F.type_list_insert rfl rfl rfl rfl rfl) rfl))) (a8 (b0 (eVx 2))))
theorem tH (T:Txt w K mg t) (G13:gi P w K mg base t (4+n) n):gi P w K mg base t (4+(n+1)) (n+1) :=
 ((T.d 13 rfl).ok bw (cE T) fun hr=>aw (eSx bw.nd 2 (eIy (cA (eAx aH (eA aH ab rfl))) (eTs gm T.z_int (eAx (uB (aL hr.units) (eVx 1) aH (fc _)) ab)))) (aw (dJ (eTx (aL hr.units) (eIy (eVx 0) ah) aH) (a8 (b0 (cA (eAx (cW (eAx (eIy (eVx 0) ah) (eAx (eVx 1) ab))) ab)))) da) (aw (dJ (eTx (aL hr.units) (eIy (eVx 0) ah) aH) (a8 (b0 (eCx G13 hr (T.d 13 rfl) (eAx (eIy (eVx 0) ah) (eAx (eVx 2) ab))))) da) (aw (eSx bw.nd 3 (cA ab)) (aw (dJ (kE (gL hr.units) (eIy (eVx 0) ah) (cW (eAx aH (eAx aH (eAx aH (eAx aH ab))))) (by with_unfolding_all rfl)) (a8 (eFx (eIT (eIy (eVx 0) ah)) (eGx bw.nd 4) (aw (dJ (eTx (mD hr.units) (eIy (eVx 0) ah) aH) (a8 (eSx bw.nd 3 (eOp ar (eVx 3) (eCx G13 hr (T.d 13 rfl) (eAx (eVx 4) (eAx (eVx 1) ab)))))) da) (a8 (dJ (kE (gL hr.units) (eIy (eVx 0) ah) (cW (eAx aH (eAx aH ab))) (by with_unfolding_all rfl)) (a8 (eSx bw.nd 3 (eOp ar (eVx 3) (eCx G13 hr (T.d 13 rfl) (eAx (eVx 4) (eAx (eVx 2) ab)))))) da))))) da) (aw (dJ (kE (gL hr.units) (eIy (eVx 0) ah) (cW (eAx aH (eAx aH ab))) (by with_unfolding_all rfl)) (aw (eSx bw.nd 3 (eCx G13 hr (T.d 13 rfl) (eAx (eIy (eVx 0) ah) (eAx (eVx 1) ab)))) (a8 (dJ (eW (rQ (eTx (aL hr.units) (eIy (eVx 0) ah) aH) (lP (eTx gh (eIy (eVx 0) ah) AX)))) (a8 (eSx bw.nd 3 (eOp ar (eVx 3) (eCx G13 hr (T.d 13 rfl) (eAx (eIy (eVx 0) ah) (eAx (eVx 2) ab)))))) da))) da) (a8 (b0 (eVx 3)))))))):gi P w K mg base t ((4+n)+1) (n+1)).mono (by omega)
theorem xg (T:Txt w K mg t):gi P w K mg base t (3+1) 0 :=
 bN.no (k:=3) (T.d 13 rfl).F bw fun vs H Q E h=>by obtain ⟨G,ds,is,pr,outs,hF,_⟩:=h;cases hF
theorem rj (T:Txt w K mg t) (G13:gi P w K mg base t 9 5):oo P w K mg base t :=
 (T.d 14 rfl).ok cm (cE T) fun hr=>aw (eSx cm.nd 1 (cA ab)) (aw (eFx (eIL (eVx 0)) (eGT (n:=3) rfl (A4 (i:=2) cm.nd rfl (Or.inr rfl) (Or.inl rfl) (A4 (i:=3) cm.nd rfl (Or.inl rfl) (Or.inl rfl) (A4 (i:=4) cm.nd rfl (Or.inl rfl) (Or.inl rfl) Ew))) rfl rfl) (aw (eSx cm.nd 5 (eCx G13 hr (T.d 13 rfl) (eAx (eVx 4) (eAx aH ab)))) (a8 (eSx cm.nd 1 (eOp ar (eVx 1) (Ag (n:=2) ["_law_other", "_law_sign"] ["_law_name"] (eIL (eVx 5)) (EG (i:=0) (by decide +kernel) rfl rfl (EG (i:=1) (by decide +kernel) rfl rfl Ft)) (eC fun _ _ _ _=>(cW (eAx (eVy 2) (eAx (eVx 0) (eAx (eVx 1) ab))))) rfl (Fe (sc:=aa gW) rfl (by decide +kernel)) ⟨rfl,⟨rfl,rfl⟩,trivial⟩ (fun _=>rfl) (fun _=>rfl) (fun _=>rfl))))))) (a8 (b0 (eST rfl hr.km rfl T.z_sorted rfl T.z_set rfl (eVx 1)))))
theorem jd (T:Txt w K mg t) (G7:qJ P w K mg base t) (G6:fu P w K mg base t) (G12:hV P w K mg base t) (G11:jr P w K mg base t 12 5):fo P w K mg base t :=
 (T.d 15 rfl).ok aD (cE T) fun hr=>aw (eSx aD.nd 1 (eCx G7 hr (T.d 7 rfl) (eAx (eVx 0) (eAx (eIx uO (cA (eA (eCl G6 hr (T.d 6 rfl).m (T.d 6 rfl).F.kp (T.d 6 rfl).b (eA (eVx 0) (eA ah ab rfl) rfl)) (eA ah ab rfl) rfl)) (eTs gm T.z_int (eA (uB (aL hr.units) (eCl G6 hr (T.d 6 rfl).m (T.d 6 rfl).F.kp (T.d 6 rfl).b (eA (eVx 0) (eA ah ab rfl) rfl)) ah (fc _)) ab rfl)) (fun _ _=>rfl)) ab)))) (aw (eSx aD.nd 2 (eCx G7 hr (T.d 7 rfl) (eAx (eVx 0) (eAx ah ab)))) (aw (eSx aD.nd 3 (cA ab)) (aw (eFx (eIL (eCx G12 hr (T.d 12 rfl) (eAx (eVx 0) (eAx (eVx 1) ab)))) (eGx aD.nd 4) (aw (eSx aD.nd 5 (eIy (cA (eAx aH (eAx aH ab))) (eCx G6 hr (T.d 6 rfl) (eAx (eVx 0) (eAx ah ab))))) (aw (eSx aD.nd 6 (eCx G11 hr (T.d 11 rfl) (eAx (eVx 0) (eAx (eVx 1) (eAx (cA ab) (eAx (eVx 2) (eAx (eCx G6 hr (T.d 6 rfl) (eAx (eVx 0) (eAx ah ab))) ab))))))) (a8 (mI (eBM (eVx 3) (eAx (cW (eAx (eVx 4) (eAx (eVx 5) (eAx (eVx 6) ab)))) ab) d8 Ij Jr Jq rfl rfl rfl rfl rfl) rfl))))) (a8 (b0 (eVx 3))))))
theorem x8 (T:Txt w K mg t) (G5:Aq P w K mg base t) (G15:fo P w K mg base t) (G14:oo P w K mg base t) (G4:n5 P w K mg base t):CY P w K mg base t :=
 (T.d 16 rfl).ok fv (cE T) fun hr=>aw (eSx fv.nd 1 (eCx G5 hr (T.d 5 rfl) (eAx (eVx 0) ab))) (aw (eSx fv.nd 2 (eCx G15 hr (T.d 15 rfl) (eAx (eVx 1) ab))) (aw (eSx fv.nd 3 (eCx G15 hr (T.d 15 rfl) (eAx (eVx 1) ab))) (aw (eFx (eIT (cW (eAx (eVx 2) (eAx (eVx 3) (eAx (eVx 2) ab))))) (eGx fv.nd 4) (aw (eSx fv.nd 5 (eCx G14 hr (T.d 14 rfl) (eAx (eVx 4) ab))) (aw (eSx fv.nd 6 (eTs (tM rfl) T.z_list (eAx (eVx 4) ab))) (aw (eSx fv.nd 7 (eCx G4 hr (T.d 4 rfl) (eAx (eVx 6) ab))) (aw (dJ (eW (Cd (eTx (mD hr.units) (eBs (fI hr) T.z_repr (eAx (eVx 7) ab)) (eBs (fI hr) T.z_repr (eAx (eVx 5) ab))) (vX (eTx (mD hr.units) (eVx 6) (eVx 4))))) (a8 (b0 eBl)) da) (aw (mI (eBM (eVx 7) (eAx AX ab) d8 Ij Jr Jq rfl rfl rfl rfl rfl) rfl) (a8 (dJ (eTx (mD hr.units) (eBs (fI hr) T.z_repr (eAx (eCx G4 hr (T.d 4 rfl) (eAx (eTs gC T.z_tuple (eAx (eVx 4) ab)) ab)) ab)) (eBs (fI hr) T.z_repr (eAx (eVx 5) ab))) (a8 (b0 eBl)) da)))))))) (a8 (b0 (Ep (uB (aL hr.units) (eCx G4 hr (T.d 4 rfl) (eAx (cA ab) ab)) (cA ab) (fc _)) (Eo (uB (aL hr.units) (eCx G4 hr (T.d 4 rfl) (eAx (cA (eAx (cW (eAx aH (eAx aH (eAx (cW (eAx aH (eA (cW (eA aH (eA aH ab rfl) rfl)) ab rfl))) ab)))) ab)) ab)) (cA (eAx (cW (eAx aH (eAx aH (eAx aH ab)))) ab)) (fc _)))))))))
end
theorem A8 {P:Program} {w:World} {K:Fg} {mg:Str->Option Value} {base:Heap} {t:Adr} (T:Txt w K mg t):bN P w K mg base CX0 14 (t.f 16).1 (t.f 16).2 ["_law_script"] (oX K):=by
 have h0:=yC (P:=P) (w:=w) (base:=base) T;have h1:=vz (P:=P) (w:=w) (base:=base) T;have h2:=sG (P:=P) (w:=w) (base:=base) T h1;have h3:=kH (P:=P) (w:=w) (base:=base) T h1;have h4:=wx (P:=P) (w:=w) (base:=base) T h1;have h5:=wF (P:=P) (w:=w) (base:=base) T h1 h4;have h6:=ni (P:=P) (w:=w) (base:=base) T h1 h5;have m_form:∀ n,bN P w K mg base CX0 (7+n) (t.f 11).1 (t.f 11).2 ["_law_pen_here", "_law_free", "_law_tied", "_law_things", "_law_deep"] (n6 K n):=by
  intro n;induction n with
  | zero=>exact (A3 T).mono (by omega)
  | succ n h7 =>
   exact (vJ (n:=n) T h1 h5 h7 h6).mono (by omega)
 have h7:=m_form 5;have h8:=jd (P:=P) (w:=w) (base:=base) T h2 h1 h3 h7;have m_signs:∀ n,bN P w K mg base CX0 (4+n) (t.f 13).1 (t.f 13).2 ["_law_form_here", "_law_sign"] (my K n):=by
  intro n;induction n with
  | zero=>exact (xg T).mono (by omega)
  | succ n h9 =>
   exact (tH (n:=n) T h9).mono (by omega)
 have h9:=m_signs 5;have h10:=rj (P:=P) (w:=w) (base:=base) T h9;have h11:=eK (P:=P) (w:=w) (base:=base) T;have h12:=gU (P:=P) (w:=w) (base:=base) T;have m_signed_names:∀ n,bN P w K mg base CX0 (3+n) (t.f 2).1 (t.f 2).2 ["form", "signs"] (cO K n):=by
  intro n;induction n with
  | zero=>exact (g7 T).mono (by omega)
  | succ n h13 =>
   exact (fX (n:=n) T h11 h13 h12).mono (by omega)
 have h13:=m_signed_names 5;have h14:=kg (P:=P) (w:=w) (base:=base) T h13;have h15:=sU (P:=P) (w:=w) (base:=base) T h14;have h16:=x8 (P:=P) (w:=w) (base:=base) T h0 h8 h10 h15;exact h16
theorem yE {w:World} {K:Fg} {h:Heap} {mg:Str->Option Value} (X:K.In h) (G:h.Ns mainGlobals mg) (D:xw K mg dfs)
  (z_abs:PySem.W.nsIn K mainGlobals "abs" = some none)
  (z_int:PySem.W.nsIn K mainGlobals "int" = some none)
  (z_len:PySem.W.nsIn K mainGlobals "len" = some none)
  (z_list:PySem.W.nsIn K mainGlobals "list" = some none)
  (z_min:PySem.W.nsIn K mainGlobals "min" = some none)
  (z_range:PySem.W.nsIn K mainGlobals "range" = some none)
  (z_repr:PySem.W.nsIn K mainGlobals "repr" = some none)
  (z_set:PySem.W.nsIn K mainGlobals "set" = some none)
  (z_sorted:PySem.W.nsIn K mainGlobals "sorted" = some none)
  (z_tuple:PySem.W.nsIn K mainGlobals "tuple" = some none)
  {ca_LISTS:Addr} (g_LISTS:PySem.W.nsIn K mainGlobals "LISTS" = some (some (.ref ca_LISTS)))
  {od_LISTS:Option Addr} {sl_LISTS:Array (Option Value)} {nn_LISTS:Nat} {tt_LISTS_0:Tok} {tt_LISTS_1:Tok} {tt_LISTS_2:Tok} {tt_LISTS_3:Tok} (s_LISTS:K.lookup ca_LISTS=some ⟨.type "tuple", od_LISTS,.seq #[.str "all" tt_LISTS_0,.str "some" tt_LISTS_1,.str "one" tt_LISTS_2,.str "none" tt_LISTS_3] nn_LISTS,sl_LISTS⟩)
  {ca_WALKS:Addr} (g_WALKS:PySem.W.nsIn K mainGlobals "WALKS" = some (some (.ref ca_WALKS)))
  {od_WALKS:Option Addr} {sl_WALKS:Array (Option Value)} {nn_WALKS:Nat} {tt_WALKS_0:Tok} {tt_WALKS_1:Tok} (s_WALKS:K.lookup ca_WALKS=some ⟨.type "tuple", od_WALKS,.seq #[.str "many" tt_WALKS_0,.str "each" tt_WALKS_1] nn_WALKS,sl_WALKS⟩)
  {ca_TURNED:Addr} (g_TURNED:PySem.W.nsIn K mainGlobals "TURNED" = some (some (.ref ca_TURNED)))
  {es_TURNED:Array DictEntry} {dn_TURNED:Nat} {dt_TURNED_0:Tok} {dt_TURNED_1:Tok} (d_TURNED:K.lookup ca_TURNED=some ⟨.type "dict", none,.dict es_TURNED dn_TURNED,#[]⟩) (q_TURNED:PySem.W.KeysLit w.params es_TURNED.toList) (y_TURNED:(ca_TURNED==sysModules)=false) (n_TURNED:es_TURNED.toList.map xD=bJ.map fun p=>some p.1) (v_TURNED_0:PySem.W.nsIn K ca_TURNED "with" = some (some (Value.str "against" dt_TURNED_0))) (v_TURNED_1:PySem.W.nsIn K ca_TURNED "against" = some (some (Value.str "with" dt_TURNED_1)))
  : ∃ t:Adr,(∀ (s:Shared) (u:Value),BindsTo s (t.f 16).2 ⟨[u],[]⟩ [("_law_script", u)])/\Txt w K mg t:=by
 obtain ⟨f,hf⟩:=FH D
 exact ⟨⟨f,ca_LISTS,ca_WALKS,ca_TURNED⟩,fun s u=>.of_eq ((hf 16 rfl).c [u] rfl),⟨hf,
  HK X G z_abs,
  HK X G z_int,
  HK X G z_len,
  HK X G z_list,
  HK X G z_min,
  HK X G z_range,
  HK X G z_repr,
  HK X G z_set,
  HK X G z_sorted,
  HK X G z_tuple,
  PySem.W.mg_of X G g_LISTS,
  PySem.W.mg_of X G g_TURNED,
  PySem.W.mg_of X G g_WALKS,
  ⟨_,_,d_TURNED,q_TURNED,y_TURNED,Dv n_TURNED (fun p hp=>by unfold bJ at hp;simp only [Gv,Hk,HL] at hp;rcases hp with rfl | rfl <;> exact ⟨_,PySem.W.find_K d_TURNED (by assumption),_,rfl⟩)⟩,
  fun H=>Or.inr ⟨_,_,_,s_LISTS,rfl,rfl,(by show 4<=sizeLine;decide),(.cons ⟨_,rfl⟩ (.cons ⟨_,rfl⟩ (.cons ⟨_,rfl⟩ (.cons ⟨_,rfl⟩ .nil))))⟩,
  fun H=>Or.inr ⟨_,_,_,s_WALKS,rfl,rfl,(by show 2<=sizeLine;decide),(.cons ⟨_,rfl⟩ (.cons ⟨_,rfl⟩ .nil))⟩⟩⟩
local macro_rules | `(tactic| walk_at "e")=>`(tactic| (case e9=>exact rfl))
local macro_rules | `(tactic| walk_at "p")=>`(tactic| first | with_reducible refine qf ?_ | walk_at "p0")
local macro_rules | `(tactic| walk_at "p0")=>`(tactic| first
 | (with_reducible first | refine zU ?_ | refine zp ?_ | refine Al ?_ | refine Af ?_ | refine y3 ?_ | refine Ea ?_ | refine zE ?_ | refine Dh ?_ | refine FD ?_ | refine Cn ?_ | refine Em ?_ | refine Cp ?_ | refine D2 ?_ | refine AG ?_ | refine yV ?_ | refine Ee ?_)
 | ((with_reducible refine w_var (d:=?d9) ?e9 ?_);walk_at "e") | ((with_reducible refine x9 (d:=?d9) ?e9 ?_);walk_at "e") | ((with_reducible refine AR (d:=?d9) ?e9 ?_);walk_at "e") | ((with_reducible refine Av (d:=?d9) ?e9 ?_);walk_at "e")
 | ((with_reducible refine CM (d:=?d9) ?e9 ?_);walk_at "e") | ((with_reducible refine BL (d:=?d9) ?e9 ?_);walk_at "e") | ((with_reducible refine BN (d:=?d9) ?e9 ?_);walk_at "e")
 | (with_reducible first | refine DI ?_ | refine zH ?_ | refine DQ ?_) | ((with_reducible refine BV (d:=?d9) ?e9 ?f9 ?_);walk_at "e"; (case f9=>exact rfl))
 | (with_reducible first | refine AB ?_ | refine yN ?_ | refine DX ?_ | refine y7 ?_ | refine CN ?_ | refine zi ?_ | refine AF ?_ | refine BZ ?_ | refine BD rfl ?_ | refine xP rfl ?_ | refine CP ?_ | refine DJ ?_ | refine w_and ?_ | refine w_or ?_ | refine w_not ?_ | refine BO ?_ | refine FC ?_ | refine FP ?_ | refine F5 ?_ | refine Fp ?_ | refine FN ?_ | refine FZ ?_ | refine E9 ?_)
 | walk_at "q")
local macro_rules | `(tactic| walk_at "q0")=>`(tactic| first
 | ((with_reducible refine wc ?e9 ?_);walk_at "e") | ((with_reducible refine jY ?e9 ?_);walk_at "e")
 | ((show WPr _ _ _ _);refine ⟨_,_,rfl,rfl,?_⟩) | ((show WPr _ _ _ _);(refine ⟨_,_,rfl,Gs ?c9,?_⟩);(case c9=>walk_at "c")) | ((show xr _ _ _ _);refine ⟨_,_,rfl,rfl,?_⟩) | ((show oF _ _ _);refine ⟨_,rfl,?_⟩) | ((show Bq _ _ _ _ _ _ _);refine ⟨_,rfl,rfl,?_⟩) | ((show Bg _ _ _ _ _ _);refine ⟨_,_,_,rfl,rfl,rfl,?_⟩) | ((show Bl _ _ _ _ _ _);refine ⟨_,rfl,rfl,?_⟩) | ((show A9 _ _ _ _ _);refine ⟨_,_,_,rfl,rfl,rfl,?_⟩) | ((show WMr _ _ _ _ _);refine ⟨_,_,_,_,rfl,rfl,rfl,?_⟩) | ((show WTp _ _ _ _);refine ⟨_,rfl,Nat.le_of_ble_eq_true rfl,?_⟩) | ((show Bo _ _ _ _);refine ⟨_,_,rfl,rfl,?_⟩) | ((show uk _ _ _ _);refine ⟨_,rfl,rfl,?_⟩) | ((show o8 _ _ _ _);refine ⟨_,rfl,rfl,?_⟩)
 | ((with_reducible refine ⟨_,rfl,?_⟩)))
local macro_rules | `(tactic| walk_at "pp")=>`(tactic| repeat walk_at "p")
local macro_rules | `(tactic| walk_at "c")=>`(tactic| first | exact rfl | assumption | (simp only [mulC,JB,GY,IM] <;> omega))
local macro_rules | `(tactic| walk_at "pz")=>`(tactic| repeat walk_at "p0")
local macro_rules | `(tactic| walk_at "n=")=>`(tactic| ((try dsimp only [Cst.i,Cst.s,Cst.b,Cst.n,RV.av,ae,List.replicate_succ,List.replicate_zero,cb,fg,ao,bg,aF,cX,kF,List.set_cons_zero,List.set_cons_succ,List.getElem?_cons_zero,List.getElem?_cons_succ,List.map_cons,List.map_nil,List.tail_cons,Option.getD_some,decide_true,decide_false,List.drop_succ_cons,List.drop_zero]);exact rfl))
local macro_rules | `(tactic| walk_at "n")=>`(tactic| ((with_reducible first | refine A5 (e':=?e9) ?h9 ?_ | refine vy (e':=?e9) ?h9 ?_ | refine Bc (e':=?e9) ?h9 ?_ | refine F8 (e':=?e9) ?h9 ?_ | refine Fy (e':=?e9) ?h9 ?_ | refine FT (e':=?e9) ?h9 ?_ | refine FL (e':=?e9) ?h9 ?_ | refine Fv (e':=?e9) ?h9 ?_ | refine CC (e':=?e9) ?h9 ?_ | refine wU (e':=?e9) ?h9 ?_ | refine DY (e':=?e9) ?h9 ?_ | refine DN (e':=?e9) ?h9 ?_ | refine BG (e':=?e9) ?h9 ?_ | refine yu (e':=?e9) ?h9 ?_ | refine A6 (e':=?e9) ?h9 ?_ | refine wJ (e':=?e9) ?h9 ?_ | refine z9 (e':=?e9) ?h9 ?_ | refine zh (e':=?e9) ?h9 ?_ | refine zN (e':=?e9) ?h9 ?_);(case h9=>walk_at "n=")))
local macro_rules | `(tactic| walk_at "soft")=>`(tactic| first | exact g6 | exact g8 | exact DE | assumption)
local macro_rules | `(tactic| walk_at "l")=>`(tactic| (rename_i h9;apply qX.out h9;clear h9;dsimp only [sR];intros))
local macro_rules | `(tactic| walk_at "L1")=>`(tactic| first | exact (rfl:qX [] []) | refine ⟨_,?_,rfl⟩ | ((refine ⟨_,_,?s9,?_,rfl⟩);(case s9=>walk_at "soft")))
local macro_rules | `(tactic| walk_at "L")=>`(tactic| repeat walk_at "L1")
local macro_rules | `(tactic| walk_at "q")=>`(tactic| first | walk_at "q0" | ((show EY _ _ _ _);refine ⟨_,_,_,rfl,rfl,rfl,?_⟩) | ((show EJ _ _ _ _ _);refine ⟨_,_,rfl,rfl,?_⟩) | ((show uk _ _ _ _);(refine ⟨_,rfl,jK rfl ?s9,?_⟩);(case s9=>walk_at "soft")) | ((show o8 _ _ _ _);(refine ⟨_,rfl,jK rfl ?s9,?_⟩);(case s9=>walk_at "soft")))
local macro_rules | `(tactic| walk_at "fT1")=>`(tactic| ((refine mX ?f9 ?_);(case f9=>((refine jK rfl ?s9);(case s9=>walk_at "soft")))))
local macro_rules | `(tactic| walk_at "fT")=>`(tactic| ((refine xT (e2:=?e9) ?h9 ?_);(case h9=>((repeat walk_at "fT1");exact rfl))))
local macro_rules | `(tactic| walk_at "f")=>`(tactic| ((refine rg ?h9 ?_);(case h9=>((refine jK rfl ?s9);(case s9=>walk_at "soft")));walk_at "n"))
local macro_rules | `(tactic| walk_at "ps1")=>`(tactic| ((fail_if_success (with_reducible refine isEq ?_));walk_at "p"))
local macro_rules | `(tactic| walk_at "ps")=>`(tactic| repeat walk_at "ps1")
theorem Ds {S:KS} {avs:List AV} {e:En} {Q:RV->En->Prop} (h:WPr (j3 S) avs e Q):WPr (j3 S) avs e Q:=h
theorem CB {S:KS} {avs:List AV} {e:En} {Q:RV->En->Prop} (h:WPr (hU S) avs e Q):WPr (hU S) avs e Q:=h
theorem DA {l:List (Str×Cst)} {avs:List AV} {e:En} {Q:RV->En->Prop} (h:WPr (xB l) avs e Q):WPr (xB l) avs e Q:=h
theorem BS {avs:List AV} {e:En} {Q:RV->En->Prop} (h:WPr kb avs e Q):WPr kb avs e Q:=h
theorem iC {c:Bool} {a b:Prop} (h1:c=true->a) (h2:c=false->b):if c=true then a else b:=by
 cases c with
 | true=>rw [Gs rfl];exact h1 rfl
 | false=>rw [Gy (by decide)];exact h2 rfl
noncomputable def tF (cs:List Int) (p l:Int):PyData:=.list [.list (cs.map .int),.int p,.int l]
theorem Fi {cs:List Int} {p:Int} (h:0 < cs.length):∃ c,atI (cs.map PyData.int) (p % (((cs.map PyData.int).length:Nat):Int))=some (.int c):=by
 have hn:(((cs.map PyData.int).length:Nat):Int)=cs.length:=by rw [Gg]
 rw [hn];have hj0:=Int.emod_nonneg p (by omega:(cs.length:Int)≠0);have hj1:=Int.emod_lt_of_pos p (by omega:(0:Int) < cs.length);obtain ⟨v,hv,ev⟩:=atV (xs:=cs.map PyData.int) hj0 (by rw [Gg];exact hj1);obtain ⟨c,_,rfl⟩:=GO.mp hv;exact ⟨c,ev⟩
theorem yU {ns:List Int} {Q:PR->List PyData->Prop} (q:Q (.frs (tF ns 0 0)) []):WF oH [.list (ns.map .int)] Q:=⟨_,_,rfl,q⟩
theorem vh {cs:List Int} {p l m:Int} {Q:PR->List PyData->Prop} (hp:0<=p) (hb:p < 2 ^ 60) (hl:0<=l) (h0:0 < m) (hm:m < 2 ^ 200) (q:∀ v p' l',0<=v->v < m->0<=p'->p'<=p+1->0<=l'->Q (.dat (.int v)) [tF cs p' l']):WF af [tF cs p l,.int m] Q:=by
 refine fE rfl ?_;have m0:∀ x:Int,0<=x % m/\x % m < m:=fun x=>⟨Int.emod_nonneg _ (by omega),Int.emod_lt_of_pos _ h0⟩;have d0:∀ x:Int,0<=x->0<=x / m:=fun x h=>Int.ediv_nonneg h (Int.le_of_lt h0);have fin:∀ c:Int,0<=(if c < 0 then -c else c):=fun c=>by split <;> omega
 unfold nU;walk_at "pp";refine iC (fun e0=>?_) (fun e0=>?_)
 ·walk_at "pp";exact q _ _ _ (m0 l).1 (m0 l).2 hp (by omega) (d0 l hl)
 ·walk_at "pz";with_reducible refine qf ?_
  walk_at "pz";with_reducible refine qf ?_
  walk_at "pz";with_reducible refine qf ?_
  walk_at "pz";walk_at "n";with_reducible refine gj fun N eN=>?_
  have rest:∀ c:Int,N ([.ino (tF cs (p+1) l),.dat (.int m),.un,.dat (.int p),.dat (.int c),.un]:En):=by
   intro c;rw [eN];clear eN N;with_reducible refine gj fun N eN=>?_
   have rest:N ([.ino (tF cs (p+1) l),.dat (.int m),.un,.dat (.int p),.dat (.int c),.un]:En):=by
    rw [eN];walk_at "pp";exact q _ _ _ (m0 _).1 (m0 _).2 (by omega) (by omega) hl
   clear eN;walk_at "pp";refine iC (fun e2=>?_) (fun e2=>?_)
   ·walk_at "pp";refine iC (fun e3=>?_) (fun e3=>?_)
    ·walk_at "pp";exact q _ _ _ (m0 _).1 (m0 _).2 (by omega) (by omega) (d0 _ (fin c))
    ·walk_at "pp";exact rest
   ·walk_at "pp";exact rest
  clear eN;walk_at "pp";refine iC (fun e1=>?_) (fun e1=>?_)
  ·have h1:(0:Int) < (((cs.map PyData.int).length:Nat):Int):=of_decide_eq_true e1;obtain ⟨c,hc⟩:=Fi (cs:=cs) (p:=p) (by rw [Gg] at h1;omega);walk_at "pp";refine iX rfl hc ?_;clear hc;walk_at "pp";exact rest c
  ·walk_at "pp";exact rest 5
def bf (cs:List Int) (B:Nat) (d:PyData):Prop:=∃ p l:Int,d=tF cs p l/\0<=p/\p<=B/\0<=l
theorem bf.mono {cs:List Int} {B C:Nat} {d:PyData} (h:bf cs B d) (hb:B<=C):bf cs C d:=by
 obtain ⟨p,l,e,a,b,c⟩:=h;exact ⟨p,l,e,a,by omega,c⟩
theorem Cw {cs:List Int} {B:Nat} {pn:PyData} {m:Int} {e1:En} {Q:RV->En->Prop} {i:Nat} (hi:aA e1 i=some pn) (hP:bf cs B pn) (hb:B < 2 ^ 60) (h0:0 < m) (hm:m < 2 ^ 200) (q:∀ v pn',bf cs (B+1) pn'->0<=v->v < m->Q (.dat (.int v)) (fg e1 i pn')):jk af [.bor i,.dat (.int m)] e1 Q:=by
 obtain ⟨p,l,rfl,hp,hb',hl⟩:=hP;refine ax (ds:=[tF cs p l,.int m]) (is:=[i]) ?_ rfl (vh hp (by omega) hl h0 hm fun v p' l' a b c d e=>⟨?_,q v _ ⟨p',l',rfl,c,by omega,e⟩ a b⟩)
 ·show gX e1 [.ino,.dat] _=_;simp only [gX,CS,hi]
 ·rfl
abbrev abc:Str := "abcdefghijklmnopqrstuvwxyz"
abbrev wds:List PyData:=[.str "any", .str "all", .str "keeps", .str "is", .str "many", .str "shape", .str "least", .str "node", .str "with", .str "kind", .str "keep"]
abbrev wdS:List Str:=["any", "all", "keeps", "is", "many", "shape", "least", "node", "with", "kind", "keep"]
def Ltr (x:Str):Prop:=∀ c∈x.cps.toList,97<=c/\c<=122
theorem bD (x y:Str):(x++y).length=x.length+y.length:=f6 x y
theorem c8 (x y:Str):(x++y).cps.toList=x.cps.toList++y.cps.toList:=by
 show (x.cps++y.cps).toList=_;simp
theorem kq (c:Nat):(⟨#[c]⟩:Str).length=1:=rfl
theorem iM {x y:Str} (hx:Ltr x) (hy:Ltr y):Ltr (x++y):=fun c hc=>by
 rw [c8] at hc;rcases GS.mp hc with h | h
 ·exact hx c h
 ·exact hy c h
theorem zf:∀ n < 26,abc.cps.toList[n]?=some (97+n):=by decide +kernel
theorem uz {r:Int} (h0:0<=r) (h1:r < 26):atI abc.cps.toList r=some (97+r.toNat):=by
 have:=kL (xs:=abc.cps.toList) (j:=r.toNat) (zf r.toNat (by omega))
 rwa [Int.toNat_of_nonneg h0] at this
theorem Eu {r:Int} (h0:0<=r) (h1:r < 26):Ltr ⟨#[97+r.toNat]⟩:=fun c hc=>by
 have:c=97+r.toNat:=by simpa using hc
 omega
theorem A0 {x:Str} {k:Int} (h:0<=k):(gZ x none (some k)).cps.toList=x.cps.toList.take k.toNat:=by
 have:=r9 (xs:=x.cps.toList) h;unfold L2.cutD at this;rw [bL] at this;unfold gZ;simpa using this
theorem Dr {x:Str} {k:Int} (h:0<=k):(gZ x (some k) none).cps.toList=x.cps.toList.drop k.toNat:=by
 unfold gZ;have e1:HT.sIx x.length 0 (some k)=min k.toNat x.length:=by
  simp only [HT.sIx];rw [Gy (by omega)]
 have e2:HT.sIx x.length x.length none=x.length:=rfl;rw [e1,e2];show (((x.cps.toList.drop (min k.toNat x.length)).take (x.length - min k.toNat x.length)).toArray).toList=_;have hn:=bL x;rw [HY,Hw (by rw [HC,hn];omega)];rcases Nat.le_total k.toNat x.length with z | z
 ·rw [Jz z]
 ·rw [Nat.min_eq_right z,List.drop_of_length_le (by omega),List.drop_of_length_le (by omega)]
theorem kR {x y:Str} (h:Ltr x) (hs:∀ c∈y.cps.toList,c∈x.cps.toList):Ltr y:=fun c hc=>h c (hs c hc)
theorem uo:∀ w∈wdS,2<=w.length/\w.length<=6/\Ltr w:=by unfold Ltr;decide +kernel
theorem Ec {k:Int} (h0:0<=k) (h1:k < 11):∃ w,w∈wdS/\atI wds k=some (.str w):=by
 have hk:k.toNat < wdS.length:=by show k.toNat < 11;omega
 refine ⟨wdS[k.toNat],IH hk,?_⟩;have:wds[k.toNat]?=some (.str wdS[k.toNat]):=by
  show (wdS.map PyData.str)[k.toNat]?=_;rw [GB,Gd hk];rfl
 have:=kL this
 rwa [Int.toNat_of_nonneg h0] at this
abbrev bys:List Int:=[1,3,5,7,9,11,15,17,19,21,23,25]
theorem Dg {k:Int} (h0:0<=k) (h1:k < 12):∃ b∈bys,atI (bys.map PyData.int) k=some (.int b):=by
 obtain ⟨d,hd,e⟩:=atV (xs:=bys.map PyData.int) h0 h1;obtain ⟨b,hb,rfl⟩:=GO.mp hd;exact ⟨b,hb,e⟩
noncomputable def sgn (fs by_:Int) (k:Nat):Str:=⟨#[97+((fs+by_*k) % 26).toNat]⟩
theorem vc (fs by_:Int) (k:Nat):Ltr (sgn fs by_ k):=Eu (by omega) (by omega)
theorem e7 (fs by_:Int) (k:Nat):(sgn fs by_ k).length=1:=rfl
theorem kj {x y a b:Str} (h:x++a=y++b) (hl:a.length=b.length):x=y/\a=b:=by
 have e:x.cps.toList++a.cps.toList=y.cps.toList++b.cps.toList:=by rw [<- c8,<-c8,h]
 have hll:a.cps.toList.length=b.cps.toList.length:=by rw [bL,bL,hl]
 obtain ⟨e1,e2⟩:=List.append_inj' e hll;constructor
 ·cases x;cases y;simp only [Str.mk.injEq];exact II.mp e1
 ·cases a;cases b;simp only [Str.mk.injEq];exact II.mp e2
theorem one_inj {a b:Nat} (h:(⟨#[a]⟩:Str)=⟨#[b]⟩):a=b:=by
 injection h with h;simpa using h
theorem kX {fs by_:Int} {i j:Nat} (hb:by_∈bys) (hi:i < 12) (hj:j < 12) (h:sgn fs by_ i=sgn fs by_ j):i=j:=by
 have a:=one_inj h;simp only [bys,Gv,Hk,HL] at hb;rcases hb with rfl | rfl | rfl | rfl | rfl | rfl | rfl | rfl | rfl | rfl | rfl | rfl <;> omega
def NmK (bs sd:Str) (wy fs by_ at_:Int) (k:Nat) (x:Str):Prop :=
 (wy=1/\x=sgn fs by_ k++gZ bs none (some ((k:Int) % ((bs.length:Int)+1))))\/(wy=3/\((k=0/\x=sd)\/(k≠0/\x=sd++sgn fs by_ k))) \/
 (wy≠1/\wy≠3/\x=gZ bs none (some at_)++sgn fs by_ k++gZ bs (some at_) none)
def Nm (x:Str):Prop:=Ltr x/\1<=x.length/\x.length<=8
theorem vo {bs sd:Str} {wy fs by_ at_:Int} {k:Nat} {x:Str} (h:NmK bs sd wy fs by_ at_ k x) (hb:Ltr bs) (hl:bs.length<=7) (hs:sd∈wdS) (ha:0<=at_):Nm x:=by
 have hn:=bL bs;obtain ⟨w0,w1,w2⟩:=uo sd hs;have L:=vc fs by_ k;have N:=e7 fs by_ k;rcases h with ⟨_,rfl⟩ | ⟨_,⟨_,rfl⟩ | ⟨_,rfl⟩⟩ | ⟨_,_,rfl⟩
 ·have e:=A0 (x:=bs) (k:=(k:Int) % ((bs.length:Int)+1)) (Int.emod_nonneg _ (by omega));have el:=bL (gZ bs none (some ((k:Int) % ((bs.length:Int)+1))));rw [e,GX] at el;exact ⟨iM L (kR hb fun c hc=>by rw [e] at hc;exact Jc hc),by rw [bD];omega,by rw [bD];omega⟩
 ·exact ⟨w2,by omega,by omega⟩
 ·exact ⟨iM w2 L,by rw [bD];omega,by rw [bD];omega⟩
 ·have e1:=A0 (x:=bs) ha;have e2:=Dr (x:=bs) ha;have l1:=bL (gZ bs none (some at_));have l2:=bL (gZ bs (some at_) none);rw [e1,GX] at l1;rw [e2,HC] at l2;refine ⟨iM (iM (kR hb fun c hc=>?_) L) (kR hb fun c hc=>?_),?_,?_⟩
  ·rw [e1] at hc;exact Jc hc
  ·rw [e2] at hc;exact List.mem_of_mem_drop hc
  ·rw [bD,bD];omega
  ·rw [bD,bD];omega
theorem sD {a b:Nat} {x y:Str} (h:(⟨#[a]⟩:Str)++x=⟨#[b]⟩++y):a=b:=by
 have e:(⟨#[a]⟩:Str).cps.toList++x.cps.toList=(⟨#[b]⟩:Str).cps.toList++y.cps.toList:=by rw [<- c8,<-c8,h]
 have e:a :: x.cps.toList=b :: y.cps.toList:=e;injection e
theorem vg {bs sd:Str} {wy fs by_ at_:Int} {i j:Nat} {x:Str} (h:NmK bs sd wy fs by_ at_ i x) (h':NmK bs sd wy fs by_ at_ j x) (hb:by_∈bys) (hi:i < 12) (hj:j < 12):i=j:=by
 rcases h with ⟨z1,rfl⟩ | ⟨z1,h⟩ | ⟨z1,z3,rfl⟩
 ·rcases h' with ⟨_,h'⟩ | ⟨z,_⟩ | ⟨z,_⟩
  ·exact kX hb hi hj (by unfold sgn;rw [sD h'])
  ·omega
  ·exact absurd z1 z
 ·rcases h' with ⟨z,_⟩ | ⟨_,h'⟩ | ⟨_,z,_⟩
  ·omega
  ·rcases h with ⟨i0,e⟩ | ⟨i0,e⟩ <;> rcases h' with ⟨j0,e'⟩ | ⟨j0,e'⟩
   ·omega
   ·have:=congrArg Str.length (e.symm.trans e');rw [bD,e7] at this;omega
   ·have:=congrArg Str.length (e.symm.trans e');rw [bD,e7] at this;omega
   ·exact kX hb hi hj (kj (e.symm.trans e') rfl).2
  ·exact absurd z1 z
 ·rcases h' with ⟨z,_⟩ | ⟨z,_⟩ | ⟨_,_,e⟩
  ·exact absurd z z1
  ·exact absurd z z3
  ·exact kX hb hi hj (kj (kj e rfl).1 rfl).2
theorem foldl_nil:∀ (ps:List Str) (acc:Array Nat),(ps.foldl (fun acc p=>acc++(Str.ofString "").cps++p.cps) acc).toList=acc.toList++ps.flatMap fun s=>s.cps.toList
 | [],acc=>by simp
 | p :: ps,acc=>by
  rw [HR,foldl_nil ps,List.flatMap_cons];have e:(Str.ofString "").cps=#[]:=by decide +kernel
  rw [e];simp
theorem jL (ss:List Str):(PySem.Txt.join "" ss).cps.toList=ss.flatMap fun s=>s.cps.toList:=by
 cases ss with
 | nil=>rfl
 | cons x r =>
  show (r.foldl (fun acc p=>acc++(Str.ofString "").cps++p.cps) x.cps).toList=_;rw [foldl_nil,List.flatMap_cons]
theorem FQ (z:Str):mx z 0 = "" := rfl
theorem FX (z:Str):mx z 1=z:=by
 cases z;simp [mx]
theorem vW (z:Str):z++("" : Str)=z:=by
 cases z with | mk c =>
 show (⟨c++(Str.ofString "").cps⟩:Str)=_;have e:(Str.ofString "").cps=#[]:=by decide +kernel
 rw [e,Array.append_empty]
theorem oJ {a b:Int} (h:PyData.eqv (.int a) (.int b)=true):a=b:=by simpa [PyData.eqv] using h
local macro_rules | `(tactic| walk_at "d")=>`(tactic| ((repeat walk_at "p");(refine Cw (cs:=?c9) (B:=?b9) (pn:=?n9) (m:=?m9) (hi:=?hi9) (hP:=?hP9) ?hb9 ?h09 ?hm9 ?_);(case hi9=>exact rfl);(case hP9=>assumption);(case hb9=>omega);(case h09=>first | decide | omega);(case hm9=>first | decide | omega)))
theorem lW {cs:List Int} {B:Nat} {pn:PyData} {m:Int} {Q:PR->List PyData->Prop} (hP:bf cs B pn) (hb:B < 2 ^ 59) (h0:0<=m) (hm:m<=12) (q:∀ (xs:List Str) pn',bf cs (B+20) pn'->(xs.length:Int)=m->xs.Nodup->(∀ x∈xs,Nm x)->Q (.frs (.list (xs.map .str))) [pn']):WF fN [pn,.int m] Q:=by
 refine fE rfl ?_;unfold lD;walk_at "d";intro c pn0 hP0 c0 c1;walk_at "n";walk_at "pp";refine ⟨⟨by omega,by omega⟩,?_⟩;refine eJ (fun i ys ec=>∃ (ss:List Str) (pn':PyData),ys=ss.map .str/\ss.length=i/\(∀ s∈ss,s.length=1/\Ltr s)/\bf cs (B+1+i) pn'/\ec=[.dat (.str abc),.ino pn']) ⟨[],pn0,rfl,rfl,fun s h=>(by cases h),hP0,rfl⟩ ?_ ?_
 ·rintro i d ys ec hd ⟨ss,pn',rfl,hsl,h1,hP',rfl⟩;obtain ⟨rfl,hi⟩:=jl hd;refine j8 ?_;walk_at "d";intro v pn4 hP4 v0 v1;walk_at "n";walk_at "pp";refine AZ rfl (uz v0 v1) ?_;exact ⟨_,rfl,ss++[⟨#[97+v.toNat]⟩],pn4,by simp,by rw [Gf,hsl];rfl,i6 h1 ⟨rfl,Eu v0 v1⟩,hP4,rfl⟩
 rintro ys ec ⟨ss,pn1,rfl,hsl,h1,hP1,rfl⟩;rw [iL] at hsl hP1;replace hsl:ss.length<=7:=by omega
 replace hP1:bf cs (B+8) pn1:=hP1.mono (by omega);walk_at "n";walk_at "pp";have hs:=om (k:=1) (ss:=ss) fun s h=>by have:=(h1 s h).1;omega
 have hjo:fw "" ss=true:=by simp only [fw,IM];have e0:(Str.ofString "").length=0:=(by decide);rw [e0];omega
 refine yQ (ss:=ss) rfl rfl hjo ?_;have hj:(Txt.join "" ss).cps.toList=ss.flatMap fun s=>s.cps.toList:=jL ss;have hjl:(Txt.join "" ss).length<=7:=by
  refine GU (Nat.le_of_eq ?_) hsl;rw [<- bL,hj];clear hj hjo hs hsl hP1;induction ss with
  | nil=>rfl
  | cons s r ih =>
   rw [List.flatMap_cons,Gf,ih fun x hx=>h1 x (Gp _ hx),bL,(h1 s Gm).1,GH];omega
 have hjL:Ltr (Txt.join "" ss):=fun c hc=>by
  rw [hj] at hc;obtain ⟨s,hs,hc⟩:=List.mem_flatMap.mp hc;exact (h1 s hs).2 c hc
 clear hj;generalize Txt.join "" ss=bs at hjl hjL;walk_at "n";walk_at "d";intro at_ pn2 hP2 at0' at1;walk_at "n";walk_at "d";intro fs pn3 hP3 fs0 fs1;walk_at "n";walk_at "d";intro bk pn4 hP4 bk0 bk1;walk_at "n";walk_at "pp";obtain ⟨by_,hby,eb⟩:=Dg bk0 bk1;refine iX rfl eb ?_;walk_at "n";walk_at "d";intro wy pn5 hP5 wy0 wy1;walk_at "n";walk_at "d";intro sk pn6 hP6 sk0 sk1;walk_at "n";walk_at "pp";obtain ⟨sd,hsd,es⟩:=Ec sk0 sk1;refine iX rfl es ?_;walk_at "n";walk_at "pp";refine ⟨⟨by omega,by omega⟩,?_⟩;clear eb es;have b1:0<=by_/\by_<=25:=by
  simp only [bys,Gv,Hk,HL] at hby;rcases hby with rfl | rfl | rfl | rfl | rfl | rfl | rfl | rfl | rfl | rfl | rfl | rfl <;> omega
 have sdl:=(uo sd hsd).2.1;have fins:∀ (xs:List Str),(xs.length:Int)=m->(∀ k x,xs[k]?=some x->NmK bs sd wy fs by_ at_ k x)->xs.Nodup/\∀ x∈xs,Nm x:=by
  intro xs hxl hx;constructor
  ·refine HE.mpr fun i j hi hj hij e=>?_;have a:=hx i _ (Gd hi);have b:=hx j _ (Gd hj);rw [e] at a;have:=vg a b hby (by omega) (by omega);omega
  ·intro x hm';obtain ⟨k,hk⟩:=Hb.mp hm';exact vo (hx k x hk) hjL hjl hsd at0'
 refine cf (fun i e=>∃ (xs:List Str),xs.length=i/\(∀ k x,xs[k]?=some x->NmK bs sd wy fs by_ at_ k x)/\qX [some (.ino pn6),none,some (.dat (.str abc)),some (.dat (.str bs)),some (.dat (.int at_)),some (.dat (.int fs)),some (.dat (.int by_)),some (.dat (.int wy)),none,some (.dat (.str sd)),some (.own (.list (xs.map .str))),none,none,none] e) ⟨[],rfl,fun k x h=>by simp at h,by walk_at "L"⟩ ?_ ?_
 ·rintro i d e hd ⟨xs,hxl,hx,_⟩;walk_at "l";obtain ⟨rfl,hi⟩:=jl hd;walk_at "f";walk_at "pp";refine AZ rfl (uz (r:=(fs+by_*i) % 26) (by omega) (by omega)) ?_;walk_at "n";have hxz:(xs.map PyData.str).length < sizeLine:=by rw [Gg,hxl];show i < 2 ^ 24;omega
  have snoc:∀ y:Str,NmK bs sd wy fs by_ at_ i y->∀ k x,(xs++[y])[k]?=some x->NmK bs sd wy fs by_ at_ k x:=by
   intro y hy k x h;rcases IG k xs.length with z | z
   ·rw [Gz z] at h;exact hx k x h
   ·rw [Gj z] at h;have hk:k - xs.length=0:=by
     rcases Nat.eq_zero_or_pos (k - xs.length) with y | y
     ·exact y
     ·rw [HS (by simp;omega)] at h;cases h
    rw [hk] at h;have hk2:k=i:=by omega
    subst hk2;cases h;exact hy
  have c1':=bB bs none (some at_);have c2':=bB bs (some at_) none;have c3':=bB bs none (some ((i:Int) % ((bs.length:Int)+1)));walk_at "pp";refine iH rfl (by rw [kq];show _<=2 ^ 24;omega) ?_;walk_at "pp";refine iH rfl (by rw [bD,kq];show _<=2 ^ 24;omega) ?_;walk_at "pp";refine iC (fun a1=>?_) (fun a1=>?_)
  ·have a1:wy=1:=oJ a1;subst a1;walk_at "pp";refine iH (ys:=gZ bs none (some ((i:Int) % ((bs.length:Int)+1)))) rfl (by rw [kq];show _<=2 ^ 24;omega) ?_;walk_at "pp";refine ki rfl hxz rfl ?_;exact ⟨xs++[sgn fs by_ i++gZ bs none (some ((i:Int) % ((bs.length:Int)+1)))],by rw [Gf,hxl];rfl,snoc _ (.inl ⟨rfl,rfl⟩),by rw [Hi];walk_at "L"⟩
  ·have a1:wy≠1:=fun z=>by subst z;cases a1
   walk_at "pp";refine iC (fun a3=>?_) (fun a3=>?_)
   ·have a3:wy=3:=oJ a3;subst a3;walk_at "pp";by_cases hi0:i=0
    ·subst hi0;refine uN (z:=sgn fs by_ 0) (n:=0) rfl (by decide) (by decide) (by rw [e7];decide) ?_;rw [show (0:Int).toNat=0 from rfl,FQ];walk_at "pp";refine iH rfl (by show _+0<=2 ^ 24;omega) ?_;rw [show sd++("" : Str)=sd from vW sd];walk_at "pp";refine ki rfl hxz rfl ?_;exact ⟨xs++[sd],by rw [Gf,hxl];rfl,snoc _ (.inr (.inl ⟨rfl,.inl ⟨rfl,rfl⟩⟩)),by rw [Hi];walk_at "L"⟩
    ·have hi1:decide ((i:Int) > 0)=true:=Iy (by omega);refine uN (z:=sgn fs by_ i) (n:=1) (by show some [PyData.str _,PyData.int (if decide ((i:Int) > 0)=true then 1 else 0)]=_;rw [Gs hi1];rfl) (by decide) (by decide) (by rw [e7];decide) ?_;rw [show (1:Int).toNat=1 from rfl,FX];walk_at "pp";refine iH rfl (by rw [e7];show _<=2 ^ 24;omega) ?_;walk_at "pp";refine ki rfl hxz rfl ?_;exact ⟨xs++[sd++sgn fs by_ i],by rw [Gf,hxl];rfl,snoc _ (.inr (.inl ⟨rfl,.inr ⟨hi0,rfl⟩⟩)),by rw [Hi];walk_at "L"⟩
   ·have a3:wy≠3:=fun z=>by subst z;cases a3
    walk_at "pp";refine ki rfl hxz rfl ?_;exact ⟨xs++[gZ bs none (some at_)++sgn fs by_ i++gZ bs (some at_) none],by rw [Gf,hxl];rfl,snoc _ (.inr (.inr ⟨a1,a3,rfl⟩)),by rw [Hi];walk_at "L"⟩
 ·rintro e ⟨xs,hxl,hx,_⟩;walk_at "l";rw [iL] at hxl;obtain ⟨f1,f2⟩:=fins xs (by omega) hx;walk_at "pp";exact q xs pn6 (hP6.mono (by omega)) (by omega) f1 f2
def Sc (a:PyData):Prop:=(∃ i:Int,a=.int i)\/a=.none
def Tip (ns:List Str) (d:PyData):Prop:=(∃ w:Str,d=.tuple [.str w]/\(w = "any" \/ w = "thing" \/ w = "number" \/ w = "said"))\/(∃ (w:Str) (x:PyData),d=.tuple [.str w,x]/\(w = "from" \/ w = "upto" \/ w = "is" \/ w = "closed")/\noD x=true/\x.depth<=3)\/∃ s:Str,s∈ns/\d=.tuple [.str "keeps", .str s]
def Wk (w:Str):Prop:=w = "many" \/ w = "each"
def Ls (w:Str):Prop:=w = "all" \/ w = "some" \/ w = "one" \/ w = "none"
def Fm (ns:List Str):Nat->PyData->Prop
 | 0,_=>False
 | n+1,d=>Tip ns d\/(∃ u,d=.tuple [.str "not", u]/\Fm ns n u)\/(∃ (w:Str) (a b:PyData) (s:Str) (u:PyData),Wk w/\d=.tuple [.str w,a,b,.str s,u]/\Sc a/\Sc b/\Fm ns n u)\/∃ (w:Str) (us:List PyData),Ls w/\d=.tuple [.str w,.tuple us]/\us.length<=3/\∀ u∈us,Fm ns n u
theorem Fm.up {ns:List Str}:∀ {n:Nat} {d:PyData},Fm ns n d->Fm ns (n+1) d
 | 0,_,h=>h.elim
 | n+1,d,h=>by
  rcases h with h | ⟨u,e,h⟩ | ⟨w,a,b,s,u,hw,e,ha,hb,h⟩ | ⟨w,us,hw,e,hl,h⟩
  ·exact .inl h
  ·exact .inr (.inl ⟨u,e,h.up⟩)
  ·exact .inr (.inr (.inl ⟨w,a,b,s,u,hw,e,ha,hb,h.up⟩))
  ·exact .inr (.inr (.inr ⟨w,us,hw,e,hl,fun u hu=>(h u hu).up⟩))
theorem Fm.le {ns:List Str} {n m:Nat} {d:PyData} (h:Fm ns n d) (hm:n<=m):Fm ns m d:=by
 induction hm with
 | refl=>exact h
 | step _ ih=>exact ih.up
theorem ji (x:Str):(PyData.str x).depth=0:=by simp [PyData.depth]
theorem Sc.ok {a:PyData} (h:Sc a):noD a=true/\a.depth=0:=by
 rcases h with ⟨i,rfl⟩ | rfl <;> simp [noD,PyData.depth]
theorem fy {ds:List PyData} {k:Nat} (h:∀ d∈ds,noD d=true/\d.depth<=k):noD (.tuple ds)=true/\(PyData.tuple ds).depth<=k+1 :=
 ⟨by simp only [noD];exact eh.mpr fun d hd=>(h d hd).1,fU fun d hd=>(h d hd).2⟩
theorem Fm.ok {ns:List Str}:∀ {n:Nat} {d:PyData},Fm ns n d->noD d=true/\d.depth<=2*n+2
 | 0,_,h=>h.elim
 | n+1,d,h=>by
  have S:∀ x:Str,noD (.str x)=true/\(PyData.str x).depth<=2*n+3:=fun x=>⟨rfl,by rw [ji];omega⟩;rcases h with (⟨w,rfl,_⟩ | ⟨w,x,rfl,_,h1,h2⟩ | ⟨s,_,rfl⟩) | ⟨u,rfl,h⟩ | ⟨w,a,b,s,u,hw,rfl,ha,hb,h⟩ | ⟨w,us,hw,rfl,hl,h⟩
  ·exact fy fun d hd=>by
    rcases Gn.mp hd with rfl;exact S w
  ·exact fy fun d hd=>by
    simp only [Gv,Hk,HL] at hd;rcases hd with rfl | rfl
    ·exact S w
    ·exact ⟨h1,by omega⟩
  ·exact fy fun d hd=>by
    simp only [Gv,Hk,HL] at hd;rcases hd with rfl | rfl <;> exact S _
  ·have:=h.ok;exact fy fun d hd=>by
    simp only [Gv,Hk,HL] at hd;rcases hd with rfl | rfl
    ·exact S _
    ·exact ⟨this.1,by omega⟩
  ·have:=h.ok;exact fy fun d hd=>by
    simp only [Gv,Hk,HL] at hd;rcases hd with rfl | rfl | rfl | rfl | rfl
    ·exact S _
    ·exact ⟨ha.ok.1,by have:=ha.ok.2;omega⟩
    ·exact ⟨hb.ok.1,by have:=hb.ok.2;omega⟩
    ·exact S _
    ·exact ⟨this.1,by omega⟩
  ·have T:=fy (ds:=us) (k:=2*n+2) fun d hd=>(h d hd).ok;exact fy fun d hd=>by
    simp only [Gv,Hk,HL] at hd;rcases hd with rfl | rfl
    ·exact S _
    ·exact T
theorem cH {ds:List PyData} {k:Int} (P:PyData->Prop) (h0:0<=k) (h1:k < ds.length) (h:∀ d∈ds,P d):∃ d,P d/\atI ds k=some d:=by
 obtain ⟨d,hd,e⟩:=atV h0 h1;exact ⟨d,h d hd,e⟩
theorem wI {cs:List Int} {B:Nat} {pn:PyData} {ts:List Str} {Q:PR->List PyData->Prop} (hP:bf cs B pn) (hb:B < 2 ^ 59) (t0:0 < ts.length) (t1:ts.length<=12) (q:∀ d pn',noD d=true/\d.depth<=3->bf cs (B+2) pn'->Q (.dat d) [pn']):WF lj [pn,.list (ts.map .str)] Q:=by
 have tl:((ts.map PyData.str).length:Int)=ts.length:=by rw [Gg]
 refine fE rfl ?_;unfold oq;walk_at "d";intro v pn1 hP1 v0 v1;walk_at "n";walk_at "pp";refine iC (fun e=>?_) (fun e=>?_)
 ·walk_at "d";intro k pn2 hP2 k0 k1;walk_at "n";walk_at "pp";obtain ⟨d,hd,e⟩:=cH (fun d=>noD d=true/\d.depth<=3) (ds:=[.int 0,.int (-7),.int 12,.int (10 ^ 30 - 1),.int (1 - 10 ^ 30)]) k0 k1 (by simp [noD,PyData.depth]);refine iX rfl e ?_;walk_at "pp";exact q d pn2 hd hP2
 ·walk_at "pp";refine iC (fun e=>?_) (fun e=>?_)
  ·walk_at "d";intro k pn2 hP2 k0 k1;walk_at "n";walk_at "pp";obtain ⟨d,⟨x,rfl⟩,e⟩:=cH (fun d=>∃ x:Str,d=.str x) (ds:=[.str "", .str "ab", .str "any", .str "abcdefgh"]) k0 k1 (by simp);refine iX rfl e ?_;walk_at "pp";exact q _ pn2 (by simp [noD,dN,PyData.depth,PyData.depthAll]) hP2
  ·walk_at "d";intro k pn2 hP2 k0 k1;walk_at "n";walk_at "pp";obtain ⟨d,hd,e⟩:=atV k0 k1;obtain ⟨x,hx,rfl⟩:=GO.mp hd;refine iX rfl e ?_;walk_at "pp";exact q _ pn2 (by simp [noD,PyData.depth]) hP2
theorem iV {cs:List Int} {B:Nat} {pn:PyData} {ns xs ts:List Str} {Q:PR->List PyData->Prop} (hP:bf cs B pn) (hb:B < 2 ^ 58) (hx:∀ x∈xs,x∈ns) (xl:xs.length<=100) (t0:0 < ts.length) (t1:ts.length<=12) (q:∀ d pn',Tip ns d->bf cs (B+3) pn'->Q (.dat d) [pn']):WF dt [pn,.list (xs.map .str),.list (ts.map .str)] Q:=by
 have tl:((xs.map PyData.str).length:Int)=xs.length:=by rw [Gg]
 refine fE rfl ?_;unfold pM;walk_at "d";intro v pn1 hP1 v0 v1;walk_at "n";walk_at "pz";walk_at "n";with_reducible refine gj fun N eN=>?_
 have rest:N ([.ino pn1,.dat (.list (xs.map .str)),.dat (.list (ts.map .str)),.dat (.int v)]:En):=by
  rw [eN];clear eN N;walk_at "pp";refine iC (fun e=>?_) (fun e=>?_)
  ·walk_at "d";intro k pn2 hP2 k0 k1;walk_at "n";walk_at "pp";obtain ⟨d,⟨w,rfl,hw⟩,e⟩:=cH (fun d=>∃ x:Str,d=.str x/\(x = "from" \/ x = "upto")) (ds:=[.str "from", .str "upto"]) k0 k1 (by simp [Wk,Ls]);refine iX rfl e ?_;clear e;walk_at "d";intro j pn3 hP3 j0 j1;walk_at "n";walk_at "pp";obtain ⟨d,hd,e⟩:=cH (fun d=>noD d=true/\d.depth<=3) (ds:=[.int 3,.int (-2),.int 0,.int (10 ^ 30 - 1)]) j0 j1 (by simp [noD,PyData.depth]);refine iX rfl e ?_;walk_at "pp";exact q _ pn3 (.inr (.inl ⟨w,d,rfl,by rcases hw with h | h;exact .inl h;exact .inr (.inl h),hd.1,hd.2⟩)) (hP3.mono (by omega))
  ·walk_at "pp";refine iC (fun e=>?_) (fun e=>?_)
   ·walk_at "pp";refine ax (ds:=[pn1,.list (ts.map .str)]) (is:=[0]) rfl rfl (wI hP1 (by omega) t0 t1 fun d pn2 hd hP2=>⟨rfl,?_⟩);walk_at "n";walk_at "pp";exact q _ pn2 (.inr (.inl ⟨_,d,rfl,.inr (.inr (.inl rfl)),hd.1,hd.2⟩)) hP2
   ·walk_at "d";intro k pn2 hP2 k0 k1;walk_at "n";walk_at "pp";obtain ⟨d,⟨w,rfl,hw⟩,e⟩:=cH (fun d=>∃ x:Str,d=.str x/\(x = "any" \/ x = "thing" \/ x = "number" \/ x = "said")) (ds:=[.str "any", .str "thing", .str "number", .str "said"]) k0 k1 (by simp [Wk,Ls]);refine iX rfl e ?_;walk_at "pp";exact q _ pn2 (.inl ⟨w,rfl,hw⟩) (hP2.mono (by omega))
 walk_at "pp";refine iC (fun e=>?_) (fun e=>?_)
 ·walk_at "pp";refine iC (fun e=>?_) (fun e=>?_)
  ·have e:=of_decide_eq_true e;clear rest;walk_at "d";intro k pn2 hP2 k0 k1;walk_at "n";walk_at "pp";obtain ⟨d,hd,e⟩:=atV k0 k1;obtain ⟨x,hm,rfl⟩:=GO.mp hd;refine iX rfl e ?_;walk_at "pp";exact q _ pn2 (.inr (.inr ⟨x,hx x hm,rfl⟩)) (hP2.mono (by omega))
  ·walk_at "pp";exact rest
 ·walk_at "pp";exact rest
theorem ku {ns xs ys:List Str} (hx:∀ x∈xs,x∈ns) (hy:∀ x∈ys,x∈ns):∀ x∈xs++ys,x∈ns:=fun x h=>by
 rcases GS.mp h with h | h
 ·exact hx x h
 ·exact hy x h
theorem mM {cs:List Int} {B:Nat} {pn:PyData} {ns xs ys ts:List Str} {Q:PR->List PyData->Prop} (hP:bf cs B pn) (hb:B < 2 ^ 57) (hx:∀ x∈xs,x∈ns) (hy:∀ x∈ys,x∈ns) (xl:xs.length<=20) (yl:ys.length<=20) (t0:0 < ts.length) (t1:ts.length<=12) (ht:∀ x∈ts,x.length<=8) (q:∀ d pn',Fm ns 3 d->bf cs (B+12) pn'->Q (.dat d) [pn']):WF eG [pn,.list (xs.map .str),.list (ys.map .str),.list (ts.map .str)] Q:=by
 have tl:((ts.map PyData.str).length:Int)=ts.length:=by rw [Gg]
 refine fE rfl ?_;unfold iD;walk_at "d";intro v pn1 hP1 v0 v1;walk_at "n";walk_at "pp";obtain ⟨wd,⟨w,rfl,hw⟩,e⟩:=cH (fun d=>∃ x:Str,d=.str x/\Wk x) (ds:=[.str "many", .str "each"]) v0 v1 (by simp [Wk,Ls]);refine iX rfl e ?_;clear e;walk_at "n";walk_at "d";intro k pn2 hP2 k0 k1;walk_at "n";walk_at "pp"
 obtain ⟨lo,⟨l,rfl,hl⟩,e⟩:=cH (fun d=>∃ i:Int,d=.int i/\0<=i/\i<=60) (ds:=[.int 0,.int 1,.int 2,.int 60]) k0 k1 (by
  intro d hd;simp only [Gv,Hk,HL] at hd
  rcases hd with rfl | rfl | rfl | rfl <;> exact ⟨_,rfl,by omega,by omega⟩)
 refine iX rfl e ?_;clear e;walk_at "n";walk_at "d";intro f pn3 hP3 f0 f1;walk_at "n";walk_at "pp"
 obtain ⟨hi,hs,e⟩:=cH Sc (ds:=[.none,.int l,.int (if l+1 < 60 then l+1 else 60)]) f0 f1 (by
  intro d hd;simp only [Gv,Hk,HL] at hd;rcases hd with rfl | rfl | rfl
  ·exact .inr rfl
  ·exact .inl ⟨_,rfl⟩
  ·exact .inl ⟨_,rfl⟩)
 refine iX rfl e ?_;clear e;walk_at "n";walk_at "d";intro j pn4 hP4 j0 j1;walk_at "n";walk_at "pp"
 obtain ⟨hd_,⟨z,rfl,hz⟩,e⟩:=cH (fun d=>∃ x:Str,d=.str x/\x.length<=1) (ds:=[.str "", .str "^"]) j0 j1 (by
  intro d hd;simp only [Gv,Hk,HL] at hd
  rcases hd with rfl | rfl <;> exact ⟨_,rfl,by decide⟩)
 refine iX rfl e ?_;clear e;walk_at "d";intro g pn5 hP5 g0 g1;walk_at "n";walk_at "pp";obtain ⟨td,htd,e⟩:=atV g0 g1;obtain ⟨t,hm,rfl⟩:=GO.mp htd;have htl:=ht t hm;refine iX rfl e ?_;clear e htd;walk_at "pp";refine iH rfl (by show _<=2 ^ 24;omega) ?_;walk_at "n";walk_at "pz";walk_at "n";with_reducible refine gj fun N eN=>?_
 have own:∀ {zs:List Str},(∀ x∈zs,x∈ns)->zs.length<=40->N ([.ino pn5,.dat (.list (xs.map .str)),.dat (.list (ys.map .str)),.dat (.list (ts.map .str)),.dat (.str w),.dat (.int l),.dat hi,.dat (.str (z++t)),.dat (.list (zs.map .str)),.un,.un,.un]:En):=by
  intro zs hz zl;rw [eN];clear eN N;walk_at "d";intro r pn6 hP6 r0 r1;walk_at "n";walk_at "pp";have W:∀ {u:PyData} {m:Nat},Fm ns m u->Fm ns (m+1) (.tuple [.str w,.int l,hi,.str (z++t),u]):=fun h=>.inr (.inr (.inl ⟨w,_,_,_,_,hw,rfl,.inl ⟨l,rfl⟩,hs,h⟩));refine iC (fun e=>?_) (fun e=>?_)
  ·walk_at "pp";refine ax (ds:=[pn6,.list (xs.map .str),.list (ts.map .str)]) (is:=[0]) rfl rfl (iV hP6 (by omega) hx (by omega) t0 t1 fun d pn7 hd hP7=>⟨rfl,?_⟩);walk_at "n";walk_at "pp";exact q _ pn7 (W (m:=2) (.inr (.inl ⟨d,rfl,.inl hd⟩))) (hP7.mono (by omega))
  ·walk_at "pp";refine ax (ds:=[pn6,.list (zs.map .str),.list (ts.map .str)]) (is:=[0]) rfl rfl (iV hP6 (by omega) hz (by omega) t0 t1 fun d pn7 hd hP7=>⟨rfl,?_⟩);walk_at "n";walk_at "pp";refine iC (fun e=>?_) (fun e=>?_)
   ·walk_at "pp";refine ax (ds:=[pn7,.list (zs.map .str),.list (ts.map .str)]) (is:=[0]) rfl rfl (iV hP7 (by omega) hz (by omega) t0 t1 fun d2 pn8 hd2 hP8=>⟨rfl,?_⟩);walk_at "n";walk_at "pp"
    exact q _ pn8 (W (m:=2) (.inr (.inr (.inr ⟨_,[d,d2],.inr (.inl rfl),rfl,by simp,fun u hu=>by
     simp only [Gv,Hk,HL] at hu;rcases hu with rfl | rfl
     ·exact .inl hd
     ·exact .inl hd2⟩)))) (hP8.mono (by omega))
   ·walk_at "pp";exact q _ pn7 (Fm.up (W (m:=1) (.inl hd))) (hP7.mono (by omega))
 have fin:=@own;clear own eN;have cat:∀ {vs:List Str},(∀ x∈vs,x∈ns)->vs.length<=20->∀ {a b:AV} {e:En},aG e [a,b]=some [.list (xs.map .str),.list (vs.map .str)]->(N (e.set 8 (.dat (.list ((xs++vs).map .str)))))->free e 8=true->WPr cV [a,b] e fun r e=>uk 8 r e N:=by
  intro vs hv vl a b e h hN hf;refine ka h (by rw [Gg,Gg];show _<=2 ^ 24;omega) ⟨_,rfl,hf,?_⟩;rw [<- Hi];exact hN
 have hys:=@cat ys hy yl;have hnil:=@cat [] (fun x h=>by cases h) (by decide);have gy:=@fin (xs++ys) (ku hx hy) (by rw [Gf];omega);have gn:=@fin (xs++[]) (ku hx fun x h=>by cases h) (by rw [Gf];show _+0<=_;omega);clear cat fin;rcases hw with rfl | rfl
 ·rcases hs with ⟨i,rfl⟩ | rfl
  ·walk_at "pp";exact hnil rfl gn rfl
  ·walk_at "pp";exact hys rfl gy rfl
 ·walk_at "pp";exact hys rfl gy rfl
local macro_rules | `(tactic| walk_at "pu1")=>`(tactic| ((fail_if_success (with_reducible refine Ds ?_));(fail_if_success (with_reducible refine CB ?_));(fail_if_success (with_reducible refine DA ?_));walk_at "p"))
local macro_rules | `(tactic| walk_at "pu")=>`(tactic| repeat walk_at "pu1")
theorem xa (n:Nat):(gk n).ms=[.ino,.dat,.dat,.dat,.dat]:=by cases n <;> rfl
theorem aU {f:Fn} {e1:En} {avs:List AV} {ds:List PyData} {is:List Nat} {ms:List PM} {Q:RV->En->Prop} (hm:f.ms=ms) (h1:gX e1 ms avs=some ds) (h2:bO ms avs=is) (h:WF f ds fun pr outs=>ckA is (nC ms avs) outs.length=true/\Q pr.rv (cb e1 is outs)):jk f avs e1 Q:=by
 subst hm;exact ax h1 h2 h
def x5 (n:Nat):Prop:=∀ {cs:List Int} {B k:Nat} {d:Int} {pn:PyData} {ns xs ys ts:List Str} {Q:PR->List PyData->Prop},d=(k:Int)->k < n->bf cs B pn->B+20*4 ^ k < 2 ^ 57->(∀ x∈xs,x∈ns)->(∀ x∈ys,x∈ns)->xs.length<=20->ys.length<=20->0 < ts.length->ts.length<=12->(∀ x∈ts,x.length<=8) ->
 (∀ v pn',Fm ns (k+2) v->bf cs (B+20*4 ^ k) pn'->Q (.dat v) [pn'])->WF (gk n) [pn,.list (xs.map .str),.list (ys.map .str),.list (ts.map .str),.int d] Q
theorem oE:∀ n,x5 n
 | 0=>by
  rename_i cs B k d pn ns xs ys ts Q;intro _ h;omega
 | n+1=>by
  rename_i cs B k d pn ns xs ys ts Q;intro hd hk hP hb hx hy xl yl t0 t1 ht q;have ih:x5 n:=oE n;have p1:1<=4 ^ k:=Nat.one_le_pow _ _ (by decide);have tl:((ts.map PyData.str).length:Int)=ts.length:=by rw [Gg]
  have no:∀ x∈([]:List Str),x∈ns:=fun x h=>by cases h
  refine fE rfl ?_;unfold pQ;walk_at "d";intro v pn1 hP1 v0 v1;walk_at "n";walk_at "pz";walk_at "n";with_reducible refine gj fun N eN=>?_
  have rest:k≠0->N ([.ino pn1,.dat (.list (xs.map .str)),.dat (.list (ys.map .str)),.dat (.list (ts.map .str)),.dat (.int d),.dat (.int v),.un,.un,.un]:En):=by
   intro k0;obtain ⟨j,rfl⟩:∃ j,k=j+1:=⟨k - 1,by omega⟩;have e4:4 ^ (j+1)=4*4 ^ j:=by rw [IQ,Nat.mul_comm]
   have p1:1<=4 ^ j:=Nat.one_le_pow _ _ (by decide);rw [e4] at hb q;rw [eN];clear eN N;walk_at "pp";refine iC (fun e=>?_) (fun e=>?_)
   ·walk_at "pp";refine aU (xa n) (is:=[0]) (ds:=[pn1,.list (xs.map .str),.list (([]:List Str).map .str),.list (ts.map .str),.int (d - 1)]) rfl rfl (ih (k:=j) (by omega) (by omega) hP1 (by omega) hx no xl (by decide) t0 t1 ht fun u pn2 hu hP2=>⟨rfl,?_⟩);walk_at "n";walk_at "pp";exact q _ pn2 (.inr (.inl ⟨u,rfl,hu⟩)) (hP2.mono (by omega))
   ·walk_at "pp";refine iC (fun e=>?_) (fun e=>?_)
    ·walk_at "d";intro i pn2 hP2 i0 i1;walk_at "n";walk_at "pp";obtain ⟨wd,⟨w,rfl,hw⟩,e⟩:=cH (fun d=>∃ x:Str,d=.str x/\Ls x) (ds:=[.str "all", .str "some", .str "one", .str "none"]) i0 i1 (by simp [Wk,Ls]);refine iX rfl e ?_;clear e;walk_at "n";walk_at "pz";walk_at "n";with_reducible refine gj fun N eN=>?_
     have own:∀ {zs:List Str},(∀ x∈zs,x∈ns)->zs.length<=20->N ([.ino pn2,.dat (.list (xs.map .str)),.dat (.list (ys.map .str)),.dat (.list (ts.map .str)),.dat (.int d),.dat (.int v),.dat (.str w),.dat (.list (zs.map .str)),.un]:En):=by
      intro zs hz zl;rw [eN];clear eN N;walk_at "d";intro m pn3 hP3 m0 m1;walk_at "n";walk_at "pp";refine ⟨⟨by omega,by omega⟩,?_⟩;refine eJ (fun i us ec=>∃ (pn':PyData),us.length=i/\(∀ u∈us,Fm ns (j+2) u)/\bf cs (B+3+i*(20*4 ^ j)) pn'/\ec=[.ino pn',.dat (.list (xs.map .str)),.dat (.list (zs.map .str)),.dat (.list (ts.map .str)),.dat (.int d)])
       ⟨pn3,rfl,(fun u h=>by cases h),hP3.mono (by omega),rfl⟩ ?_ ?_
      ·rintro i dd us ec hd' ⟨pn',hu,ha,hp',rfl⟩;obtain ⟨rfl,hi⟩:=jl hd';have hi3:i<=2:=by omega
       have hm2:i*(20*4 ^ j)<=2*(20*4 ^ j):=IC _ hi3;refine j8 ?_;walk_at "pp";refine aU (xa n) (is:=[1]) (ds:=[pn',.list (xs.map .str),.list (zs.map .str),.list (ts.map .str),.int (d - 1)]) rfl rfl (ih (k:=j) (by omega) (by omega) hp' (by omega) hx hz xl zl t0 t1 ht fun u pn4 hu4 hP4=>⟨rfl,?_⟩);exact ⟨_,rfl,pn4,by rw [Gf,hu];rfl,i6 ha hu4,hP4.mono (by rw [Nat.add_mul];omega),rfl⟩
      ·rintro us ec ⟨pn',hu,ha,hp',rfl⟩;rw [iL] at hu hp';have hm3:m.toNat*(20*4 ^ j)<=3*(20*4 ^ j):=IC _ (by omega);walk_at "n";walk_at "pp";exact q _ pn' (.inr (.inr (.inr ⟨w,us,hw,rfl,by omega,ha⟩))) (hp'.mono (by omega))
     have gy:=@own ys hy yl;have gn:=@own [] no (by decide);clear own eN;rcases hw with rfl | rfl | rfl | rfl
     ·walk_at "pp";exact gy
     ·walk_at "pp";exact gy
     ·walk_at "pp";exact gn
     ·walk_at "pp";exact gn
    ·walk_at "pp";refine iC (fun e=>?_) (fun e=>?_)
     ·walk_at "d";intro m pn3 hP3 m0 m1;walk_at "n";walk_at "pp";refine ⟨⟨by omega,by omega⟩,?_⟩;refine eJ (fun i us ec=>∃ (ss:List Str) (pn':PyData),us=ss.map .str/\ss.length=i/\bf cs (B+2+i) pn'/\ec=[.dat (.list (ts.map .str)),.ino pn'])
       ⟨[],pn3,rfl,rfl,hP3.mono (by omega),rfl⟩ ?_ ?_
      ·rintro i dd us ec hd' ⟨ss,pn',rfl,hu,hp',rfl⟩;obtain ⟨rfl,hi⟩:=jl hd';refine j8 ?_;walk_at "d";intro g pn4 hP4 g0 g1;walk_at "n";walk_at "pp";obtain ⟨td,htd,e⟩:=atV g0 g1;obtain ⟨t,hm,rfl⟩:=GO.mp htd;refine iX rfl e ?_;exact ⟨_,rfl,ss++[t],pn4,by simp,by rw [Gf,hu];rfl,hP4,rfl⟩
      ·rintro us ec ⟨ss,pn',rfl,hu,hp',rfl⟩;rw [iL] at hu hp';walk_at "n";walk_at "pu";refine xJ (ss:=ss) rfl (by omega) ?_;walk_at "pp";exact q _ pn' (.inl (.inr (.inl ⟨_,_,rfl,.inr (.inr (.inr rfl)),by simp only [noD];exact eh.mpr fun d hd=>by obtain ⟨x,_,rfl⟩:=GO.mp hd;rfl,GU (fU (k:=0) fun d hd=>by obtain ⟨x,_,rfl⟩:=GO.mp hd;rw [ji];exact Gu _) (by decide)⟩))) (hp'.mono (by omega))
     ·walk_at "pp";refine ax (ds:=[pn1,.list (xs.map .str),.list (ys.map .str),.list (ts.map .str)]) (is:=[0]) rfl rfl (mM hP1 (by omega) hx hy xl yl t0 t1 ht fun u pn2 hu hP2=>⟨rfl,?_⟩);walk_at "n";walk_at "pp";exact q _ pn2 (hu.le (by omega)) (hP2.mono (by omega))
  have leaf:WPr cV [.dat (.list (xs.map .str)),.dat (.list (ys.map .str))] ([.ino pn1,.dat (.list (xs.map .str)),.dat (.list (ys.map .str)),.dat (.list (ts.map .str)),.dat (.int d),.dat (.int v),.un,.un,.un]:En) fun r e=>WA gds (.cons (vr 3) .nil) e fun avs e2=>jk dt (.bor 0 :: r.av :: avs) e2 (xr [.ino,.dat,.dat,.dat,.dat] Q):=by
   refine ka rfl (by rw [Gg,Gg];show _<=2 ^ 24;omega) ?_;rw [<- Hi];walk_at "pp";refine ax (ds:=[pn1,.list ((xs++ys).map .str),.list (ts.map .str)]) (is:=[0]) rfl rfl (iV hP1 (by omega) (ku hx hy) (by rw [Gf];omega) t0 t1 fun u pn2 hu hP2=>⟨rfl,?_⟩);exact ⟨_,_,rfl,rfl,q _ pn2 (.inl hu) (hP2.mono (by omega))⟩
  walk_at "pp";refine iC (fun e=>?_) (fun e=>?_)
  ·clear rest;walk_at "pp";exact leaf
  ·have d0:k≠0:=fun z=>by subst z;subst hd;cases e
   walk_at "pp";refine iC (fun e=>?_) (fun e=>?_)
   ·clear rest;walk_at "pp";exact leaf
   ·walk_at "pp";exact rest d0
abbrev wS:Str := "with"
abbrev aS:Str := "against"
abbrev pr (s t:Str):PyData:=.tuple [.str s,.str t]
def Sg (x:Str):Prop:=x=wS\/x=aS
def Pr (ns:List Str) (x:PyData):Prop:=∃ s∈ns,∃ t,Sg t/\x=pr s t
noncomputable def bI (x:Str):Str:=if x=wS then aS else wS
inductive Md | same | turn | both
noncomputable def Md.s:Md->List Str->List Str
 | .same,x=>x
 | .turn,x=>x.map bI
 | .both,_=>[aS,wS]
theorem DU:wS≠aS:=by decide +kernel
theorem ly:bI wS=aS:=by unfold bI;rw [Gs rfl]
theorem mE:bI aS=wS:=by unfold bI;rw [Gy (fun e=>DU e.symm)]
theorem gq {x:Str} (h:Sg x):Sg (bI x):=by
 rcases h with rfl | rfl
 ·exact .inr ly
 ·exact .inl mE
theorem cT {s t:Str} (h:Sg s):t∈[aS,wS]↔t=s\/t=bI s:=by
 rcases h with rfl | rfl
 ·rw [ly];simp [or_comm]
 ·rw [mE];simp
structure Sgs (ss:List Str):Prop where
 ne:ss≠[]
 sg:∀ x∈ss,Sg x
 len:ss.length<=2
theorem Sgs.md {ss:List Str} (h:Sgs ss) (md:Md):Sgs (md.s ss):=by
 cases md with
 | same=>exact h
 | both=>exact ⟨by simp [Md.s],fun x hx=>by simp [Md.s] at hx;rcases hx with rfl | rfl;exact .inr rfl;exact .inl rfl,by simp [Md.s]⟩
 | turn=>exact ⟨fun e=>h.ne (List.map_eq_nil_iff.mp e),fun x hx=>by obtain ⟨y,hy,rfl⟩:=GO.mp hx;exact gq (h.sg y hy),by show (ss.map bI).length<=2;rw [Gg];exact h.len⟩
theorem t9 {ss:List Str} (h:Sgs ss) (md:Md) (t:Str):t∈md.s ss↔∃ s∈ss,t∈md.s [s]:=by
 cases md with
 | same=>simp [Md.s]
 | turn=>simp only [Md.s,GO,Gn];exact ⟨fun ⟨a,h,e⟩=>⟨a,h,a,rfl,e⟩,fun ⟨s,h,a,e,e2⟩=>⟨a,e▸h,e2⟩⟩
 | both =>
  obtain ⟨x,xs,rfl⟩:=List.exists_cons_of_ne_nil h.ne;exact ⟨fun h=>⟨x,Gm,h⟩,fun ⟨_,_,h⟩=>h⟩
structure Kd (ns:List Str) (n:Nat) (d:PyData) (ks:List PyData) (md:Md):Prop where
 kids:∀ u∈ks,Fm ns n u
 len:ks.length<=3
 hd:∃ w rest,d=.tuple (.str w :: rest)/\decide (w = "keeps")=false
 parts:∀ {Q:PR->List PyData->Prop},Q (.dat (.tuple ks)) []->WF aQ [d] Q
 within:ks≠[]->∀ {ss:List Str} {Q:PR->List PyData->Prop},(∀ x∈ss,Sg x)->(∀ r:PR,(r=.dat (.list ((md.s ss).map .str))\/r=.frs (.list ((md.s ss).map .str)))->Q r [])->WF bF [d,.list (ss.map .str)] Q
theorem Ca:Bs bJ (.str wS)=some (.dat (.str aS)):=rfl
theorem Dp:Bs bJ (.str aS)=some (.dat (.str wS)):=rfl
theorem Dw {e:En} {x:AV} {z:Str} {Q:RV->En->Prop} (h1:aG e [x]=some [.str z]) (hz:Sg z) (q:Q (.dat (.str (bI z))) e):WPr (xB bJ) [x] e Q:=by
 rcases hz with rfl | rfl
 ·rw [ly] at q;exact ⟨_,_,h1,Ca,q⟩
 ·rw [mE] at q;exact ⟨_,_,h1,Dp,q⟩
theorem mC {ss:List Str} {e:En} {Q:RV->En->Prop} (hs:∀ x∈ss,Sg x) (q:Q (.frs (.list ((ss.map bI).map .str))) e):Be (eU (dT gds .yes) (dE gds (p1 (xB bJ) (vr 0)))) [] (ss.map .str) none e Q:=by
 refine eJ (fun i ys ec=>ys=((ss.take i).map bI).map .str/\ec=[]) ⟨rfl,rfl⟩ ?_ ?_
 ·rintro i d ys ec hd ⟨rfl,rfl⟩;rw [GB] at hd;obtain ⟨x,hx,rfl⟩:=GW.mp hd;refine j8 ?_;walk_at "pu";refine Dw rfl (hs x (Gx hx)) ?_;walk_at "pu";exact ⟨by rw [<- L2.take_snoc hx,Hi,Hi];rfl,rfl⟩
 ·rintro ys ec ⟨rfl,rfl⟩;rw [Gg,Hy];exact q
theorem xU {ns:List Str} {n:Nat} {u:PyData} (h:Fm ns n u):Kd ns n (.tuple [.str "not", u]) [u] .turn where
 kids:=fun v hv=>by rw [Gn.mp hv];exact h
 len:=by simp
 hd:=⟨_,_,rfl,rfl⟩
 parts:=fun q=>⟨_,_,rfl,q⟩
 within:=fun _ {ss Q} hs q=>by
  refine fE rfl ?_;unfold aj;walk_at "pp";refine ja rfl (mC hs ?_);walk_at "pp";exact q _ (.inr rfl)
theorem CD {ns:List Str} {n:Nat} {w s:Str} {a b u:PyData} {md:Md} (hw:(w = "many" /\ ((dg b=true/\md=.same)\/(dg b=false/\md=.both)))\/(w = "each" /\ md=.same)) (h:Fm ns n u):Kd ns n (.tuple [.str w,a,b,.str s,u]) [u] md:=by
 have kids:∀ v∈[u],Fm ns n v:=fun v hv=>by rw [Gn.mp hv];exact h
 rcases hw with ⟨rfl,⟨hb,rfl⟩ | ⟨hb,rfl⟩⟩ | ⟨rfl,rfl⟩
 ·refine ⟨kids,by simp,⟨_,_,rfl,rfl⟩,fun q=>⟨_,_,rfl,q⟩,fun _ {ss Q} hs q=>?_⟩;refine fE rfl ?_;unfold aj;walk_at "pp";refine jY (by rw [hb];rfl) ?_;walk_at "pp";exact q _ (.inl rfl)
 ·refine ⟨kids,by simp,⟨_,_,rfl,rfl⟩,fun q=>⟨_,_,rfl,q⟩,fun _ {ss Q} hs q=>?_⟩;refine fE rfl ?_;unfold aj;walk_at "pp";refine wc (by rw [hb];rfl) ?_;walk_at "pp";exact q _ (.inr rfl)
 ·refine ⟨kids,by simp,⟨_,_,rfl,rfl⟩,fun q=>⟨_,_,rfl,q⟩,fun _ {ss Q} hs q=>?_⟩;refine fE rfl ?_;unfold aj;walk_at "pp";exact q _ (.inl rfl)
def LsM (w:Str) (md:Md):Prop:=(w = "all" /\ md=.same)\/(w = "some" /\ md=.same)\/(w = "one" /\ md=.both)\/(w = "none" /\ md=.turn)
theorem BF {ns:List Str} {n:Nat} {w:Str} {us:List PyData} {md:Md} (hw:LsM w md) (hl:us.length<=3) (kids:∀ u∈us,Fm ns n u):Kd ns n (.tuple [.str w,.tuple us]) us md:=by
 rcases hw with ⟨rfl,rfl⟩ | ⟨rfl,rfl⟩ | ⟨rfl,rfl⟩ | ⟨rfl,rfl⟩
 ·refine ⟨kids,hl,⟨_,_,rfl,rfl⟩,fun q=>⟨_,_,rfl,q⟩,fun _ {ss Q} hs q=>?_⟩;refine fE rfl ?_;unfold aj;walk_at "pp";exact q _ (.inl rfl)
 ·refine ⟨kids,hl,⟨_,_,rfl,rfl⟩,fun q=>⟨_,_,rfl,q⟩,fun _ {ss Q} hs q=>?_⟩;refine fE rfl ?_;unfold aj;walk_at "pp";exact q _ (.inl rfl)
 ·refine ⟨kids,hl,⟨_,_,rfl,rfl⟩,fun q=>⟨_,_,rfl,q⟩,fun _ {ss Q} hs q=>?_⟩;refine fE rfl ?_;unfold aj;walk_at "pp";exact q _ (.inr rfl)
 ·refine ⟨kids,hl,⟨_,_,rfl,rfl⟩,fun q=>⟨_,_,rfl,q⟩,fun _ {ss Q} hs q=>?_⟩;refine fE rfl ?_;unfold aj;walk_at "pp";refine ja rfl (mC hs ?_);walk_at "pp";exact q _ (.inr rfl)
theorem AS (n:Nat):(au n).ms=[.dat,.dat]:=by cases n <;> rfl
theorem gp (n:Nat):(aW n).ms=[.dat,.dat]:=by cases n <;> rfl
structure SgN (ns:List Str) (n:Nat) (d:PyData) (M:Str->PyData->Prop):Prop where
 mem:∀ s x,Sg s->M s x->Pr ns x
 sn:∀ {ss:List Str} {Q:PR->List PyData->Prop},Sgs ss->(∀ out,(∀ x,x∈out↔∃ s∈ss,M s x)->out.length<=2*3 ^ n->Q (.frs (.list out)) [])->WF (au n) [d,.list (ss.map .str)] Q
 lw:∀ {s:Str} {Q:PR->List PyData->Prop},Sg s->(∀ out r,(∀ x,x∈out↔M s x)->out.length<=6 ^ n->(r=.dat (.list out)\/r=.frs (.list out))->Q r [])->WF (aW n) [d,.str s] Q
def Mk (ks:List PyData) (md:Md) (f:PyData->Str->PyData->Prop) (s:Str) (x:PyData):Prop:=∃ u∈ks,∃ t∈md.s [s],f u t x
theorem tj {ns:List Str} {n:Nat} {d:PyData} {ks:List PyData} {md:Md} {f:PyData->Str->PyData->Prop} (h9:n<=8) (D:Kd ns n d ks md) (hf:∀ u∈ks,SgN ns n u (f u)) {ss:List Str} {Q:PR->List PyData->Prop} (hr:Sgs ss) (q:∀ out,(∀ x,x∈out↔∃ s∈ss,Mk ks md f s x)->out.length<=2*3 ^ (n+1)->Q (.frs (.list out)) []):WF (au (n+1)) [d,.list (ss.map .str)] Q:=by
 obtain ⟨w,rest,hd,hkp⟩:=D.hd;have p9:3 ^ n<=3 ^ 8:=Ih (by decide) h9;refine fE rfl ?_;unfold bA;walk_at "pp";rw [hd];refine qL rfl at0 ?_;rw [<- hd];walk_at "pp";refine jY (show PyData.eqv (.str w) (.str "keeps")=false by rw [L2.xm];exact hkp) ?_;walk_at "pp";refine ax (ds:=[d]) (is:=[]) rfl rfl (D.parts ⟨rfl,?_⟩);refine ⟨ks,rfl,?_⟩;refine cf (fun i e=>∃ (out:List PyData) (e3:Sl),(∀ x,x∈out↔∃ u∈ks.take i,∃ t∈md.s ss,f u t x)/\out.length<=i*(2*3 ^ n)/\soft e3/\e=[.dat d,.dat (.list (ss.map .str)),.own (.list out),e3]) ⟨[],.un,fun x=>by simp,by simp,g6,rfl⟩ ?_ ?_
 ·rintro i u e hu ⟨out,e3,hm,hl,s3,rfl⟩;have hmu:=Gx hu;have hi:i < ks.length:=(Gh.mp hu).1;have h6:=D.len;refine rg (jK rfl s3) ?_;walk_at "pp";refine ax (ds:=[d,.list (ss.map .str)]) (is:=[]) rfl rfl (D.within (fun z=>by rw [z] at hmu;cases hmu) hr.sg fun r hrr=>⟨rfl,?_⟩);have hav:r.rv.av=.dat (.list ((md.s ss).map .str)):=by rcases hrr with rfl | rfl <;> rfl
  show WA gds _ _ fun avs e2=>jk (au n) (.dat u :: r.rv.av :: avs) e2 _;rw [hav];walk_at "pp";refine aU (AS n) (is:=[]) (ds:=[u,.list ((md.s ss).map .str)]) rfl rfl ((hf u hmu).sn (hr.md md) fun o2 hm2 hl2=>⟨rfl,?_⟩);walk_at "pp";have tot:out.length+o2.length<=(i+1)*(2*3 ^ n):=by rw [Nat.add_mul,Nat.one_mul];omega
  have tl:(i+1)*(2*3 ^ n)<=3*(2*3 ^ 8):=Ji (by omega) (Nat.mul_le_mul_left _ p9);refine Ci rfl (by rw [Hm];have:(3*(2*3 ^ 8):Nat)=39366:=(by decide);omega) rfl ?_;refine ⟨out++o2,.dat u,fun x=>?_,by rw [Gf];exact tot,g8,rfl⟩;rw [GS,hm,hm2,<-L2.take_snoc hu];constructor
  ·rintro (⟨v,hv,h⟩ | h)
   ·exact ⟨v,GQ _ hv,h⟩
   ·exact ⟨u,by simp,h⟩
  ·rintro ⟨v,hv,h⟩;rcases GS.mp hv with hv | hv
   ·exact .inl ⟨v,hv,h⟩
   ·have:v=u:=by simpa using hv
    subst this;exact .inr h
 ·rintro e ⟨out,e3,hm,hl,s3,rfl⟩;rw [Hy] at hm;walk_at "pp";refine q out (fun x=>?_) (GU hl ?_)
  ·rw [hm];constructor
   ·rintro ⟨u,hu,t,ht,h⟩;obtain ⟨s,hs,ht⟩:=(t9 hr md t).mp ht;exact ⟨s,hs,u,hu,t,ht,h⟩
   ·rintro ⟨s,hs,u,hu,t,ht,h⟩;exact ⟨u,hu,t,(t9 hr md t).mpr ⟨s,hs,ht⟩,h⟩
  ·rw [IQ];have:=IC (2*3 ^ n) D.len;omega
theorem vZ {ns:List Str} {n:Nat} {s:Str} (hs:s∈ns):SgN ns (n+1) (.tuple [.str "keeps", .str s]) fun t x=>x=pr s t where
 mem:=fun t x ht h=>⟨s,hs,t,ht,h⟩
 sn:=fun {ss Q} hr q=>by
  refine fE rfl ?_;unfold bA;walk_at "pp";refine ja rfl (eJ (fun i ys ec=>ys=(ss.take i).map (fun t=>pr s t)/\ec=[.dat (.tuple [.str "keeps", .str s])]) ⟨rfl,rfl⟩ ?_ ?_)
  ·rintro i d ys ec hd ⟨rfl,rfl⟩;rw [GB] at hd;obtain ⟨t,ht,rfl⟩:=GW.mp hd;refine j8 ?_;walk_at "pp";exact ⟨by rw [<- L2.take_snoc ht,Hi];rfl,rfl⟩
  ·rintro ys ec ⟨rfl,rfl⟩;rw [Gg,Hy];walk_at "pp";have p:1<=3 ^ n:=Nat.one_le_pow _ _ (by decide);have:=hr.len;refine q _ (fun x=>?_) (by rw [Gg,IQ];omega);rw [GO];exact ⟨fun ⟨t,h,e⟩=>⟨t,h,e.symm⟩,fun ⟨t,h,e⟩=>⟨t,h,e.symm⟩⟩
 lw:=fun {t Q} ht q=>by
  have p:1<=6 ^ n:=Nat.one_le_pow _ _ (by decide);refine fE rfl ?_;unfold bu;rcases ht with rfl | rfl
  ·walk_at "pp";exact q _ _ (fun x=>by simp) (by rw [IQ];show 1<=_;omega) (.inr rfl)
  ·walk_at "pp";exact q _ _ (fun x=>by simp) (by rw [IQ];show 1<=_;omega) (.inr rfl)
noncomputable def sgR (F:Fn):XS:=match bu F with | .seq _ t=>t | t=>t
theorem mG {n:Nat} {d:PyData} {s:Str} {Q:PR->List PyData->Prop} (hs:Sg s) (h:WS gds (sgR (aW n)) ([.dat d,.dat (.str s),.dat (.str (bI s)),.un,.un]:En) ⟨oF [.dat,.dat] Q,xr [.dat,.dat] Q,fun _=>False,fun _=>False⟩):WF (aW (n+1)) [d,.str s] Q:=by
 refine fE rfl ?_;unfold sgR bu at h;dsimp only at h;unfold bu;with_reducible refine gj fun N eN=>?_
 have h:N ([.dat d,.dat (.str s),.dat (.str (bI s)),.un,.un]:En):=by rw [eN];exact h
 clear eN;rcases hs with rfl | rfl
 ·rw [ly] at h;walk_at "pp";exact h
 ·rw [mE] at h;walk_at "pp";exact h
theorem Ax {ns:List Str} {n:Nat} {d:PyData} (hn:n<=8) (h:Tip ns d):∃ M,SgN ns (n+1) d M:=by
 have low:∀ (w:Str) (rest:List PyData),d=.tuple (.str w :: rest)->decide (w = "keeps")=false->(∀ {Q:PR->List PyData->Prop},Q (.dat (.tuple [])) []->WF aQ [d] Q)->(∀ {s:Str} {Q:PR->List PyData->Prop},Sg s->Q (.dat (.list [])) []->WF (aW (n+1)) [d,.str s] Q)->SgN ns (n+1) d (Mk [] .same fun _ _ _=>False):=by
  intro w rest hd hk hp hl;have D:Kd ns n d [] .same:=⟨fun u hu=>(by cases hu),by decide,⟨w,rest,hd,hk⟩,hp,fun z=>absurd rfl z⟩;refine ⟨fun s x _ ⟨u,hu,_⟩=>(by cases hu),fun hr q=>tj hn D (fun u hu=>by cases hu) hr q,fun hs q=>hl hs (q [] _ (fun x=>?_) (by simp) (.inl rfl))⟩;constructor
  ·intro h;cases h
  ·rintro ⟨u,hu,_⟩;cases hu
 have gen:∀ (w:Str) (rest:List PyData),d=.tuple (.str w :: rest)->PyData.eqv (.str w) (.str "keeps")=false->PyData.eqv (.str w) (.str "not")=false->uq [.str "all", .str "some", .str "one", .str "none"] (.str w)=false->uq [.str "many", .str "each"] (.str w)=false->∀ {s:Str} {Q:PR->List PyData->Prop},Sg s->Q (.dat (.list [])) []->WF (aW (n+1)) [d,.str s] Q:=by
  intro w rest hd h1 h2 h3 h4 s Q hs q;subst hd;refine mG hs ?_;unfold sgR bu;dsimp only;walk_at "pp";refine qL rfl at0 ?_;walk_at "pp";refine jY h1 ?_;walk_at "pp";refine qL rfl at0 ?_;walk_at "pp";refine jY h2 ?_;walk_at "pp";refine qL rfl at0 ?_;walk_at "pp";refine jY (show ngB false (uq [.str "all", .str "some", .str "one", .str "none"] (.str w))=false by rw [h3];rfl) ?_;walk_at "pp";refine qL rfl at0 ?_;walk_at "pp";refine jY (show ngB false (uq [.str "many", .str "each"] (.str w))=false by rw [h4];rfl) ?_;walk_at "pp";exact q
 rcases h with ⟨w,rfl,hw⟩ | ⟨w,x,rfl,hw,_⟩ | ⟨s,hs,rfl⟩
 ·refine ⟨_,low w [] rfl ?_ ?_ (gen w [] rfl ?_ ?_ ?_ ?_)⟩
  ·rcases hw with rfl | rfl | rfl | rfl <;> rfl
  ·intro Q q;rcases hw with rfl | rfl | rfl | rfl <;> exact ⟨_,_,rfl,q⟩
  all_goals (rcases hw with rfl | rfl | rfl | rfl <;> rfl)
 ·refine ⟨_,low w [x] rfl ?_ ?_ (gen w [x] rfl ?_ ?_ ?_ ?_)⟩
  ·rcases hw with rfl | rfl | rfl | rfl <;> rfl
  ·intro Q q;rcases hw with rfl | rfl | rfl | rfl <;> exact ⟨_,_,rfl,q⟩
  all_goals (rcases hw with rfl | rfl | rfl | rfl <;> rfl)
 ·exact ⟨_,vZ hs⟩
theorem qA {ns:List Str} {n:Nat} {ks:List PyData} {md:Md} {f:PyData->Str->PyData->Prop} (hf:∀ u∈ks,SgN ns n u (f u)) (s:Str) (x:PyData) (hs:Sg s) (h:Mk ks md f s x):Pr ns x:=by
 obtain ⟨u,hu,t,ht,h⟩:=h;have S:Sgs [s]:=⟨by simp,fun y hy=>by rw [Gn.mp hy];exact hs,by simp⟩;exact (hf u hu).mem t x ((S.md md).sg t ht) h
theorem z6 {ns:List Str} {n:Nat} {u:PyData} {f:PyData->Str->PyData->Prop} (hn:n<=8) (h:Fm ns n u) (hf:SgN ns n u (f u)):SgN ns (n+1) (.tuple [.str "not", u]) (Mk [u] .turn f):=by
 have hf':∀ v∈[u],SgN ns n v (f v):=fun v hv=>by rw [Gn.mp hv];exact hf
 refine ⟨qA hf',fun hr q=>tj hn (xU h) hf' hr q,fun {s Q} hs q=>mG hs ?_⟩;unfold sgR bu;dsimp only;walk_at "pp";refine aU (gp n) (is:=[]) (ds:=[u,.str (bI s)]) rfl rfl (hf.lw (gq hs) fun out r hm hl hr=>⟨rfl,?_⟩);have g:=q out r (fun x=>by rw [hm];simp [Mk,Md.s]) (GU hl (Ih (by decide) (by omega))) hr;rcases hr with rfl | rfl
 ·exact ⟨_,_,rfl,rfl,g⟩
 ·exact ⟨_,_,rfl,rfl,g⟩
theorem sH {r:PR} {out:List PyData} (h:r=.dat (.list out)\/r=.frs (.list out)):r.rv.av=.dat (.list out):=by rcases h with rfl | rfl <;> rfl
theorem u7 {ns:List Str} {n:Nat} {w s0:Str} {a b u:PyData} {md:Md} {f:PyData->Str->PyData->Prop} (hn:n<=7) (hw:(w = "many" /\ ((dg b=true/\md=.same)\/(dg b=false/\md=.both)))\/(w = "each" /\ md=.same)) (h:Fm ns n u) (hf:SgN ns n u (f u)):SgN ns (n+1) (.tuple [.str w,a,b,.str s0,u]) (Mk [u] md f):=by
 have hf':∀ v∈[u],SgN ns n v (f v):=fun v hv=>by rw [Gn.mp hv];exact hf
 have p9:6 ^ n<=6 ^ 7:=Ih (by decide) hn;refine ⟨qA hf',fun hr q=>tj (by omega) (CD hw h) hf' hr q,fun {s Q} hs q=>mG hs ?_⟩;unfold sgR bu;dsimp only;have pl:∀ {m:Nat},m<=6 ^ n->m<=6 ^ (n+1):=fun h=>GU h (Ih (by decide) (by omega));have asg:∀ {r:PR} {out:List PyData} {e:En} {N:En->Prop},(r=.dat (.list out)\/r=.frs (.list out))->free e 3=true->N (e.set 3 (.dat (.list out)))->uk 3 r.rv e N:=fun h hf hN=>⟨_,sH h,hf,hN⟩;rcases hw with ⟨rfl,⟨hb,rfl⟩ | ⟨hb,rfl⟩⟩ | ⟨rfl,rfl⟩
 ·walk_at "pp";refine aU (gp n) (is:=[]) (ds:=[u,.str s]) rfl rfl (hf.lw hs fun out r hm hl hr=>⟨rfl,asg hr rfl ?_⟩);walk_at "pp";refine jY (by rw [hb];rfl) ?_;walk_at "pp";exact q out _ (fun x=>by rw [hm];simp [Mk,Md.s]) (pl hl) (.inl rfl)
 ·walk_at "pp";refine aU (gp n) (is:=[]) (ds:=[u,.str s]) rfl rfl (hf.lw hs fun out r hm hl hr=>⟨rfl,asg hr rfl ?_⟩);walk_at "n";walk_at "pp";refine wc (by rw [hb];rfl) ?_;walk_at "pp";refine aU (gp n) (is:=[]) (ds:=[u,.str (bI s)]) rfl rfl (hf.lw (gq hs) fun o2 r2 hm2 hl2 hr2=>⟨rfl,?_⟩);show WA gds _ _ fun avs e2=>WPr cV (.dat (.list out) :: r2.rv.av :: avs) e2 _;rw [sH hr2];walk_at "pp";refine ka rfl (by rw [Hm];have:(6 ^ 7:Nat)=279936:=(by decide);omega) ?_;walk_at "pp";refine q _ _ (fun x=>?_) (by rw [Gf,IQ];omega) (.inl rfl);rw [GS,hm,hm2];constructor
  ·rintro (h | h)
   ·exact ⟨u,by simp,s,(cT hs).mpr (.inl rfl),h⟩
   ·exact ⟨u,by simp,_,(cT hs).mpr (.inr rfl),h⟩
  ·rintro ⟨v,hv,t,ht,h⟩;rw [Gn.mp hv] at h;rcases (cT hs).mp ht with rfl | rfl
   ·exact .inl h
   ·exact .inr h
 ·walk_at "pp";refine aU (gp n) (is:=[]) (ds:=[u,.str s]) rfl rfl (hf.lw hs fun out r hm hl hr=>⟨rfl,asg hr rfl ?_⟩);walk_at "pp";exact q out _ (fun x=>by rw [hm];simp [Mk,Md.s]) (pl hl) (.inl rfl)
theorem rC {ns:List Str} {n:Nat} {w:Str} {us:List PyData} {md:Md} {f:PyData->Str->PyData->Prop} (hn:n<=7) (hw:LsM w md) (hl:us.length<=3) (kids:∀ u∈us,Fm ns n u) (hf:∀ u∈us,SgN ns n u (f u)):SgN ns (n+1) (.tuple [.str w,.tuple us]) (Mk us md f):=by
 have p9:6 ^ n<=6 ^ 7:=Ih (by decide) hn;have p7:(6 ^ 7:Nat)=279936:=by decide
 refine ⟨qA hf,fun hr q=>tj (by omega) (BF hw hl kids) hf hr q,fun {s Q} hs q=>mG hs ?_⟩;unfold sgR bu;dsimp only;have inv:∀ {E:Kn},(∀ out e4,(∀ x,x∈out↔Mk us md f s x)->out.length<=6 ^ (n+1)->soft e4->E.nx [.dat (.tuple [.str w,.tuple us]),.dat (.str s),.dat (.str (bI s)),.dat (.list out),e4]) ->
   A7 (fb 4 (dS gds (.seq (.ifs (.tst (p2 neP (p2 ixP (vr 0) (ci 0)) (L2.cs "none"))) (.a6 3 (p2 cV (vr 3) (.call (aW n) (.cons (vr 4) (.cons (vr 1) .nil))))) .skip)
  (.ifs (.tst (p2 inP (p2 ixP (vr 0) (ci 0)) (.tup (.cons (L2.cs "one") (.cons (L2.cs "none") .nil))))) (.a6 3 (p2 cV (vr 3) (.call (aW n) (.cons (vr 4) (.cons (vr 2) .nil))))) .skip)))) us none [.dat (.tuple [.str w,.tuple us]),.dat (.str s),.dat (.str (bI s)),.dat (.list []),.un] E:=by
  intro E qq;refine cf (fun i e=>∃ (out:List PyData) (e4:Sl),(∀ x,x∈out↔Mk (us.take i) md f s x)/\out.length<=i*(2*6 ^ n)/\soft e4/\e=[.dat (.tuple [.str w,.tuple us]),.dat (.str s),.dat (.str (bI s)),.dat (.list out),e4]) ⟨[],.un,fun x=>by simp [Mk],by simp,g6,rfl⟩ ?_ ?_
  ·rintro i u e hu ⟨out,e4,hm,hlo,s4,rfl⟩;have hmu:=Gx hu;have hi:i < us.length:=(Gh.mp hu).1;have S:=hf u hmu;have tl:i*(2*6 ^ n)<=2*(2*6 ^ 7):=Ji (by omega) (Nat.mul_le_mul_left _ p9);have fin:∀ {o:List PyData},(∀ x,x∈o↔x∈out\/∃ t∈md.s [s],f u t x)->o.length<=out.length+2*6 ^ n->∃ (o2:List PyData) (e4:Sl),(∀ x,x∈o2↔Mk (us.take (i+1)) md f s x)/\o2.length<=(i+1)*(2*6 ^ n)/\soft e4/\([.dat (.tuple [.str w,.tuple us]),.dat (.str s),.dat (.str (bI s)),.dat (.list o),.dat u]:En)=[.dat (.tuple [.str w,.tuple us]),.dat (.str s),.dat (.str (bI s)),.dat (.list o2),e4]:=by
    intro o ho hol;refine ⟨o,.dat u,fun x=>?_,by rw [Nat.add_mul,Nat.one_mul];omega,g8,rfl⟩;rw [ho,hm,<-L2.take_snoc hu];constructor
    ·rintro (⟨v,hv,h⟩ | h)
     ·exact ⟨v,GQ _ hv,h⟩
     ·exact ⟨u,by simp,h⟩
    ·rintro ⟨v,hv,h⟩;rcases GS.mp hv with hv | hv
     ·exact .inl ⟨v,hv,h⟩
     ·have:v=u:=by simpa using hv
      subst this;exact .inr h
   have add:∀ {o o2:List PyData} {r:PR} {e:En} {N:En->Prop},(r=.dat (.list o2)\/r=.frs (.list o2))->o.length+o2.length<=2 ^ 24->free e 3=true->N (e.set 3 (.dat (.list (o++o2))))->WA gds .nil e fun avs e2=>WPr cV (.dat (.list o) :: r.rv.av :: avs) e2 fun r e=>uk 3 r e N:=by
    intro o o2 r e N hr hlen hf hN;rw [sH hr];refine AG ?_;exact ka rfl (by rw [Hm];exact hlen) ⟨_,rfl,hf,hN⟩
   refine rg (jK rfl s4) ?_;walk_at "n";rcases hw with ⟨rfl,rfl⟩ | ⟨rfl,rfl⟩ | ⟨rfl,rfl⟩ | ⟨rfl,rfl⟩
   ·walk_at "pp";refine aU (gp n) (is:=[]) (ds:=[u,.str s]) rfl rfl (S.lw hs fun o2 r2 hm2 hl2 hr2=>⟨rfl,add hr2 (by omega) rfl ?_⟩);walk_at "n";walk_at "pp";exact fin (fun x=>by rw [GS,hm2];simp [Md.s]) (by rw [Gf];omega)
   ·walk_at "pp";refine aU (gp n) (is:=[]) (ds:=[u,.str s]) rfl rfl (S.lw hs fun o2 r2 hm2 hl2 hr2=>⟨rfl,add hr2 (by omega) rfl ?_⟩);walk_at "n";walk_at "pp";exact fin (fun x=>by rw [GS,hm2];simp [Md.s]) (by rw [Gf];omega)
   ·walk_at "pp";refine aU (gp n) (is:=[]) (ds:=[u,.str s]) rfl rfl (S.lw hs fun o2 r2 hm2 hl2 hr2=>⟨rfl,add hr2 (by omega) rfl ?_⟩);walk_at "n";walk_at "pp";refine aU (gp n) (is:=[]) (ds:=[u,.str (bI s)]) rfl rfl (S.lw (gq hs) fun o3 r3 hm3 hl3 hr3=>⟨rfl,add hr3 (by rw [Gf];omega) rfl ?_⟩);refine fin (fun x=>?_) (by rw [Gf,Gf];omega);rw [GS,GS,hm2,hm3,or_assoc];refine or_congr Iff.rfl ⟨?_,?_⟩
    ·rintro (h | h)
     ·exact ⟨s,(cT hs).mpr (.inl rfl),h⟩
     ·exact ⟨_,(cT hs).mpr (.inr rfl),h⟩
    ·rintro ⟨t,ht,h⟩;rcases (cT hs).mp ht with rfl | rfl
     ·exact .inl h
     ·exact .inr h
   ·walk_at "pp";refine aU (gp n) (is:=[]) (ds:=[u,.str (bI s)]) rfl rfl (S.lw (gq hs) fun o2 r2 hm2 hl2 hr2=>⟨rfl,add hr2 (by omega) rfl ?_⟩);exact fin (fun x=>by rw [GS,hm2];simp [Md.s]) (by rw [Gf];omega)
  ·rintro e ⟨out,e4,hm,hlo,s4,rfl⟩;rw [Hy] at hm;refine qq out e4 hm (GU hlo ?_) s4;rw [IQ];have:=IC (2*6 ^ n) hl;omega
 rcases hw with ⟨rfl,rfl⟩ | ⟨rfl,rfl⟩ | ⟨rfl,rfl⟩ | ⟨rfl,rfl⟩ <;> (walk_at "pp"; refine inv fun out e4 hm ho s4=>?_;walk_at "pp"; exact q out _ hm ho (.inl rfl))
theorem AM {ns:List Str}:∀ (n:Nat) (d:PyData),n<=7->Fm ns n d->∃ M,SgN ns n d M
 | 0,d,_,h=>h.elim
 | n+1,d,h9,h=>by
  have ex:∀ u,∃ M,Fm ns n u->SgN ns n u M:=fun u=>by
   by_cases hu:Fm ns n u
   ·obtain ⟨f,hf⟩:=AM n u (by omega) hu;exact ⟨f,fun _=>hf⟩
   ·exact ⟨fun _ _=>False,fun z=>absurd z hu⟩
  obtain ⟨f,hf⟩:=Classical.axiomOfChoice ex;rcases h with h | ⟨u,rfl,h⟩ | ⟨w,a,b,s,u,hw,rfl,ha,hb,h⟩ | ⟨w,us,hw,rfl,hl,h⟩
  ·exact Ax (by omega) h
  ·exact ⟨_,z6 (f:=f) (by omega) h (hf u h)⟩
  ·rcases hw with rfl | rfl
   ·cases hbn:dg b with
    | true=>exact ⟨_,u7 (f:=f) (by omega) (.inl ⟨rfl,.inl ⟨hbn,rfl⟩⟩) h (hf u h)⟩
    | false=>exact ⟨_,u7 (f:=f) (by omega) (.inl ⟨rfl,.inr ⟨hbn,rfl⟩⟩) h (hf u h)⟩
   ·exact ⟨_,u7 (f:=f) (by omega) (.inr ⟨rfl,rfl⟩) h (hf u h)⟩
  ·have k:=fun u hu=>hf u (h u hu);rcases hw with rfl | rfl | rfl | rfl
   ·exact ⟨_,rC (f:=f) (by omega) (.inl ⟨rfl,rfl⟩) hl h k⟩
   ·exact ⟨_,rC (f:=f) (by omega) (.inr (.inl ⟨rfl,rfl⟩)) hl h k⟩
   ·exact ⟨_,rC (f:=f) (by omega) (.inr (.inr (.inl ⟨rfl,rfl⟩))) hl h k⟩
   ·exact ⟨_,rC (f:=f) (by omega) (.inr (.inr (.inr ⟨rfl,rfl⟩))) hl h k⟩
abbrev tr (a s t:Str):PyData:=.tuple [.str a,.str s,.str t]
def Tx (x:PyData):Prop:=(∃ s t,x=pr s t)\/∃ a s t,x=tr a s t
def Kok (K:List PyData):Prop:=K.Nodup/\∀ k∈K,Tx k
theorem Tx.hk {x:PyData} (h:Tx x):hkB x=true/\hk6 x=true/\txB x=true:=by
 have six:∀ {y:PyData},hkB y=true->y.depth<=6->hk6 y=true:=fun h h2=>by
  unfold hk6;rw [h,Bool.true_and];exact Iy h2
 rcases h with ⟨s,t,rfl⟩ | ⟨a,s,t,rfl⟩
 ·exact ⟨rfl,six rfl (by simp [PyData.depth,PyData.depthAll]),rfl⟩
 ·exact ⟨rfl,six rfl (by simp [PyData.depth,PyData.depthAll]),rfl⟩
theorem lJ {K:List PyData} {x:PyData} (hK:Kok K) (hx:Tx x):(K.any fun e=>PyData.eqv e x)=true↔x∈K:=by
 rw [List.any_eq_true];constructor
 ·rintro ⟨e,he,q⟩;have:=(f7 _ _ (hK.2 e he).hk.1 hx.hk.1).mp q;exact this▸he
 ·intro h;exact ⟨x,h,(f7 _ _ hx.hk.1 hx.hk.1).mpr rfl⟩
theorem Ak {K:List PyData} {x:PyData} (hK:Kok K) (hx:Tx x):Kok (bT K x)/\∀ y,y∈bT K x↔y∈K\/y=x:=by
 unfold bT;by_cases h:x∈K
 ·rw [Gs ((lJ hK hx).mpr h)];refine ⟨hK,fun y=>⟨.inl,?_⟩⟩;rintro (z | rfl)
  ·exact z
  ·exact h
 ·rw [Gy (fun z=>h ((lJ hK hx).mp z))];refine ⟨⟨Hs.mpr ⟨hK.1,by simp,fun a ha b hb e=>?_⟩,fun k hk=>?_⟩,fun y=>by simp⟩
  ·have:b=x:=by simpa using hb
   exact h (this▸e▸ha)
  ·rcases GS.mp hk with hk | hk
   ·exact hK.2 k hk
   ·have:k=x:=by simpa using hk
    rw [this];exact hx
theorem kU:∀ {out K:List PyData},Kok K->(∀ x∈out,Tx x)->Kok (out.foldl bT K)/\∀ y,y∈out.foldl bT K↔y∈K\/y∈out
 | [],K,hK,h=>⟨hK,fun y=>by simp⟩
 | x :: out,K,hK,h=>by
  have a:=Ak hK (h x Gm);have b:=kU (out:=out) a.1 fun y hy=>h y (Gp _ hy);refine ⟨b.1,fun y=>?_⟩;rw [HR,b.2 y,a.2 y,Gv,or_assoc]
theorem j7 {K:List PyData} (h:Kok K):okS tyS K:=by
 refine ⟨fun z hz=>?_,?_⟩
 ·rcases h.2 z hz with ⟨s,t,rfl⟩ | ⟨a,s,t,rfl⟩ <;> rfl
 ·unfold List.Nodup;rw [Ir];refine h.1.imp_of_mem fun {a b} ha hb hne e=>hne ?_;rcases h.2 a ha with ⟨s,t,rfl⟩ | ⟨x,s,t,rfl⟩ <;> rcases h.2 b hb with ⟨s',t',rfl⟩ | ⟨x',s',t',rfl⟩
  ·have e:[s,t]=[s',t']:=e;injection e with e1 e2;injection e2 with e2 _;rw [e1,e2]
  ·have e:[s,t]=[x',s',t']:=e;cases congrArg List.length e
  ·have e:[x,s,t]=[s',t']:=e;cases congrArg List.length e
  ·have e:[x,s,t]=[x',s',t']:=e;injection e with e0 e1;injection e1 with e1 e2;injection e2 with e2 _;rw [e0,e1,e2]
theorem su {K L:List PyData} (hK:Kok K) (hL:Kok L) (h:∀ x,x∈K↔x∈L):fG tyS K=fG tyS L:=fV (j7 hL) ((List.perm_ext_iff_of_nodup hK.1 hL.1).mpr h)
noncomputable def PL (ns:List Str):List PyData:=ns.map (fun s=>pr s wS)++ns.map fun s=>pr s aS
theorem xM {ns:List Str} {x:PyData} (h:Pr ns x):x∈PL ns:=by
 obtain ⟨s,hs,t,rfl | rfl,rfl⟩:=h
 ·exact GQ _ (GO.mpr ⟨s,hs,rfl⟩)
 ·exact Gr _ (GO.mpr ⟨s,hs,rfl⟩)
abbrev Shp:=Str×Str×PyData×List PyData
abbrev Shp.enc (t:Shp):PyData:=.tuple [.str t.1,.str t.2.1,t.2.2.1]
structure Sp (ns:List Str) (t:Shp):Prop where
 nd:t.2.2.2.Nodup
 mem:∀ x∈t.2.2.2,Pr ns x
 len:t.2.2.2.length<=2*ns.length
 ok:noD t.2.2.1=true/\t.2.2.1.depth<=12
 si:∀ {Q:PR->List PyData->Prop},Q (.frs (.list t.2.2.2)) []->WF dq [t.2.2.1] Q
 lw:∀ {Q:PR->List PyData->Prop},(∀ out r,(∀ x,x∈out↔x∈t.2.2.2)->out.length<=6 ^ 5->(r=.dat (.list out)\/r=.frs (.list out))->Q r [])->WF (aW 5) [t.2.2.1,.str wS] Q
theorem D5 {ns:List Str} {a w:Str} {d:PyData} (hn:ns.length<=12) (h:Fm ns 5 d):∃ L,Sp ns (a,w,d,L):=by
 obtain ⟨M,S⟩:=AM 5 d (by decide) h;have hw:Sg wS:=.inl rfl;have S1:Sgs [wS]:=⟨by simp,fun x hx=>by rw [Gn.mp hx];exact hw,by simp⟩;obtain ⟨r,outs,hF,out,hm,rfl,rfl⟩:=S.sn (Q:=fun r outs=>∃ out,(∀ x,x∈out↔M wS x)/\r=.frs (.list out)/\outs=[]) S1 fun out hm _=>⟨out,fun x=>by rw [hm];simp,rfl,rfl⟩;have hp:∀ x∈out,Pr ns x:=fun x hx=>S.mem _ x hw ((hm x).mp hx);have htx:∀ x∈out,Tx x:=fun x hx=>by
  obtain ⟨s,_,t,_,e⟩:=hp x hx;exact .inl ⟨s,t,e⟩
 have O:=kU (K:=[]) ⟨List.Pairwise.nil,fun k hk=>by cases hk⟩ htx;have ho:∀ x,x∈out.foldl bT []↔x∈out:=fun x=>by rw [O.2];simp
 have kl:(out.foldl bT []).length<=2*ns.length:=by
  have:=I0 (l₂:=PL ns) O.1.1 fun x hx=>xM (hp x ((ho x).mp hx));unfold PL at this;rw [Gf,Gg,Gg] at this;omega
 have pm:=iW tyS (out.foldl bT []);refine ⟨fG tyS (out.foldl bT []),pm.nodup_iff.mpr O.1.1,fun x hx=>hp x ((ho x).mp (pm.mem_iff.mp hx)),by show (fG tyS _).length<=_;rw [pm.length_eq];exact kl,h.ok,fun q=>?_,fun q=>S.lw hw fun o r h1 h2 h3=>q o r (fun x=>?_) h2 h3⟩
 ·refine fE rfl ?_;unfold gs;walk_at "pu";refine aU (AS 5) (is:=[]) (ds:=[d,.list ([wS].map .str)]) rfl rfl ⟨_,_,hF,rfl,?_⟩;walk_at "pu";refine oG (ds:=out) rfl (fun d hd=>⟨(htx d hd).hk.2.1,(htx d hd).hk.2.2⟩) (by omega) (j7 O.1) ?_;walk_at "pu";exact q
 ·show x∈o↔x∈fG tyS _;rw [pm.mem_iff,ho,h1,hm]
noncomputable def tr3 (a:Str):PyData->PyData
 | .tuple [.str o,.str s]=>.tuple [.str a,.str o,.str s]
 | x=>x
noncomputable def FF (Ts:List Shp):List PyData:=Ts.flatMap fun t=>t.2.2.2.map (tr3 t.1)
structure Good (ns:List Str) (Ts:List Shp):Prop where
 nd:(Ts.map (·.1)).Nodup
 len:Ts.length<=12
 nl:ns.length<=12
 nm:∀ x∈ns,Nm x
 sp:∀ t∈Ts,Sp ns t
 tn:∀ t∈Ts,Nm t.1
theorem uV {Ts:List Shp} {x:PyData}:x∈FF Ts↔∃ t∈Ts,∃ y∈t.2.2.2,tr3 t.1 y=x:=by
 unfold FF;rw [List.mem_flatMap];exact ⟨fun ⟨t,ht,h⟩=>⟨t,ht,GO.mp h⟩,fun ⟨t,ht,h⟩=>⟨t,ht,GO.mpr h⟩⟩
theorem fe {ns:List Str} {a:Str} {y:PyData} (h:Pr ns y):∃ o s,o∈ns/\Sg s/\y=pr o s/\tr3 a y=tr a o s:=by
 obtain ⟨s,hs,t,ht,rfl⟩:=h;exact ⟨s,t,hs,ht,rfl,rfl⟩
theorem xn {ns:List Str}:∀ {Ts:List Shp},(Ts.map (·.1)).Nodup->(∀ t∈Ts,Sp ns t)->Kok (FF Ts)/\(FF Ts).length<=Ts.length*(2*ns.length)
 | [],_,_=>⟨⟨List.Pairwise.nil,fun k hk=>by cases hk⟩,by simp [FF]⟩
 | t :: Ts,nd,sp=>by
  have ih:=xn (Ts:=Ts) (Hu.mp nd).2 fun u hu=>sp u (Gp _ hu);have S:=sp t Gm;have e:FF (t :: Ts)=t.2.2.2.map (tr3 t.1)++FF Ts:=by unfold FF;rw [List.flatMap_cons]
  rw [e];refine ⟨⟨Hs.mpr ⟨?_,ih.1.1,fun a ha b hb hab=>?_⟩,fun k hk=>?_⟩,?_⟩
  ·unfold List.Nodup;rw [Ir];refine S.nd.imp_of_mem fun {a b} ha hb hne e=>hne ?_;obtain ⟨o,s,_,_,rfl,e1⟩:=fe (a:=t.1) (S.mem a ha);obtain ⟨o',s',_,_,rfl,e2⟩:=fe (a:=t.1) (S.mem b hb);rw [e1,e2] at e;simp only [PyData.tuple.injEq,List.cons.injEq,PyData.str.injEq] at e;rw [e.2.1,e.2.2.1]
  ·obtain ⟨y,hy,rfl⟩:=GO.mp ha;obtain ⟨u,hu,z,hz,rfl⟩:=uV.mp hb;obtain ⟨o,s,_,_,rfl,e1⟩:=fe (a:=t.1) (S.mem y hy);obtain ⟨o',s',_,_,rfl,e2⟩:=fe (a:=u.1) ((sp u (Gp _ hu)).mem z hz);rw [e1,e2] at hab;simp only [PyData.tuple.injEq,List.cons.injEq,PyData.str.injEq] at hab;exact (Hu.mp nd).1 (GO.mpr ⟨u,hu,hab.1.symm⟩)
  ·rcases GS.mp hk with hk | hk
   ·obtain ⟨y,hy,rfl⟩:=GO.mp hk;obtain ⟨o,s,_,_,rfl,e1⟩:=fe (a:=t.1) (S.mem y hy);rw [e1];exact .inr ⟨_,_,_,rfl⟩
   ·exact ih.1.2 k hk
  ·rw [Gf,Gg,GH,Nat.add_mul,Nat.one_mul];have:=S.len;have:=ih.2;omega
noncomputable def hgB:XS:=match dR with | .seq _ (.seq (.fr _ _ b) _)=>b | s=>s
theorem oS {Ts:List Shp} {i:Nat} {t:Shp} (h:Ts[i]?=some t):FF (Ts.take (i+1))=FF (Ts.take i)++t.2.2.2.map (tr3 t.1):=by
 unfold FF;rw [<- L2.take_snoc h,List.flatMap_append];simp
theorem j9 {ns:List Str} {Ts:List Shp} {X:PyData} {E:Kn} (G:Good ns Ts) (q:∀ e2 e3 e4,E.nx [.dat X,.own (.list (FF Ts)),e2,e3,e4]):A7 (fb 2 (dS gds hgB)) (Ts.map Shp.enc) none [.dat X,.own (.list []),.un,.un,.un] E:=by
 have nl:=G.nl;have tl:=G.len;refine cf (fun i e=>∃ e2 e3 e4,soft e2/\soft e3/\soft e4/\e=[.dat X,.own (.list (FF (Ts.take i))),e2,e3,e4]) ⟨.un,.un,.un,g6,g6,g6,rfl⟩ ?_ ?_
 ·rintro i d e hd ⟨e2,e3,e4,s2,s3,s4,rfl⟩;rw [GB] at hd;obtain ⟨t,ht,rfl⟩:=GW.mp hd;have htm:=Gx ht;have S:=G.sp t htm;have sl:=S.len;have hi:i < Ts.length:=(Gh.mp ht).1;have fl:(FF (Ts.take i)).length<=300:=by
   have:=(xn (ns:=ns) (Ts:=Ts.take i) ((List.map_take (f:=(·.1)) (l:=Ts) (i:=i))▸G.nd.sublist (List.take_sublist _ _)) fun u hu=>G.sp u (Jc hu)).2;rw [GX,Jz (by omega)] at this;have:=GU this (Ji (show i<=12 by omega) (show 2*ns.length<=24 by omega));omega
  refine rg (jK rfl s2) ?_;unfold hgB dR;dsimp only;walk_at "pp";refine ax (ds:=[t.2.2.1]) (is:=[]) rfl rfl (S.si ⟨rfl,?_⟩);refine ja rfl (cf (fun j e=>∃ e3 e4,soft e3/\soft e4/\e=[.dat X,.own (.list (FF (Ts.take i)++(t.2.2.2.take j).map (tr3 t.1))),.dat t.enc,e3,e4]) ⟨e3,e4,s3,s4,by simp;rfl⟩ ?_ ?_)
  ·rintro j y e hy ⟨e3,e4,s3,s4,rfl⟩;have hj:j < t.2.2.2.length:=(Gh.mp hy).1;obtain ⟨o,s,_,_,rfl,e1⟩:=fe (a:=t.1) (S.mem y (Gx hy));walk_at "fT";walk_at "pp";refine ki rfl (by rw [Gf,Gg,GX];show _ < 2 ^ 24;omega) rfl ?_;refine ⟨.dat (.str o),.dat (.str s),g8,g8,?_⟩;rw [<- L2.take_snoc hy,Hi,<-GI];rfl
  ·rintro e ⟨e3,e4,s3,s4,rfl⟩;rw [Hy];exact ⟨.dat t.enc,e3,e4,g8,s3,s4,by rw [oS ht];rfl⟩
 ·rintro e ⟨e2,e3,e4,s2,s3,s4,rfl⟩;rw [Gg,Hy];exact q _ _ _
theorem qF {ns:List Str} {Ts:List Shp} (G:Good ns Ts):Kok (FF Ts)/\(FF Ts).length < 300:=by
 have:=xn G.nd G.sp;refine ⟨this.1,?_⟩;have h:=GU this.2 (Ji G.len (show 2*ns.length<=24 by have:=G.nl;omega));omega
theorem Ab {ns:List Str} {Ts:List Shp} {Q:PR->List PyData->Prop} (G:Good ns Ts) (q:Q (.frs (.list (fG tyS (FF Ts)))) []):WF bt [.list (Ts.map Shp.enc)] Q:=by
 have F:=qF G;refine fE rfl ?_;unfold dR;walk_at "pu";refine .inl (ja rfl (j9 G fun e2 e3 e4=>?_));walk_at "pu";refine oB rfl F.2 (j7 F.1) ?_;walk_at "pu";exact q
theorem zq {ns:List Str} {Ts:List Shp} {Q:PR->List PyData->Prop} (G:Good ns Ts) (q:Q (.frs (.list (fG tyS (FF Ts)))) []):WF bt [.tuple (Ts.map Shp.enc)] Q:=by
 have F:=qF G;refine fE rfl ?_;unfold dR;walk_at "pu";refine .inr ⟨_,rfl,j9 G fun e2 e3 e4=>?_⟩;walk_at "pu";refine oB rfl F.2 (j7 F.1) ?_;walk_at "pu";exact q
theorem tE {ns:List Str} {Ts:List Shp} {Q:PR->List PyData->Prop} (G:Good ns Ts) (q:Q (.frs (.list (fG tyS (FF Ts)))) []):WF iO [.list (Ts.map Shp.enc)] Q:=by
 have F:=qF G;have tl:=G.len;refine fE rfl ?_;unfold lB;walk_at "pu";refine ja rfl (cf (fun i e=>∃ (out:List PyData) (e2 e3 e4 e5:Sl),(∀ x,x∈out↔x∈FF (Ts.take i))/\out.length<=i*6 ^ 5/\soft e2/\soft e3/\soft e4/\soft e5/\e=[.dat (.list (Ts.map Shp.enc)),.dat (.list out),e2,e3,e4,e5]) ⟨[],.un,.un,.un,.un,fun x=>by simp [FF],by simp,g6,g6,g6,g6,rfl⟩ ?_ ?_)
 ·rintro i d e hd ⟨out,e2,e3,e4,e5,hm,hl,s2,s3,s4,s5,rfl⟩;rw [GB] at hd;obtain ⟨t,ht,rfl⟩:=GW.mp hd;have S:=G.sp t (Gx ht);have hi:i < Ts.length:=(Gh.mp ht).1;walk_at "fT";walk_at "pp";refine aU (gp 5) (is:=[]) (ds:=[t.2.2.1,.str wS]) rfl rfl (S.lw fun o2 r hm2 hl2 hr=>⟨rfl,_,sH hr,jK rfl s5,?_⟩);walk_at "n";walk_at "pp";have pm:∀ x∈o2,Pr ns x:=fun x hx=>S.mem x ((hm2 x).mp hx);refine ja rfl (eJ (fun j ys ec=>ys=(o2.take j).map (tr3 t.1)/\ec=[.dat (.str t.1)]) ⟨rfl,rfl⟩ ?_ ?_)
  ·rintro j y ys ec hy ⟨rfl,rfl⟩;obtain ⟨o,s,_,_,rfl,e1⟩:=fe (a:=t.1) (pm y (Gx hy));refine vG rfl ?_;walk_at "pp";exact ⟨by rw [<- L2.take_snoc hy,Hi];rfl,rfl⟩
  ·rintro ys ec ⟨rfl,rfl⟩;rw [Hy];walk_at "n";walk_at "pp";have p5:(6 ^ 5:Nat)=7776:=by decide
   refine ka rfl (by rw [Gg];show _<=2 ^ 24;omega) ?_;walk_at "pp";refine ⟨_,_,_,_,_,fun x=>?_,by rw [Gf,Gg,Nat.add_mul,Nat.one_mul];omega,g8,g8,g8,g8,rfl⟩;rw [oS ht,GS,GS,hm,GO,GO];refine or_congr Iff.rfl ⟨fun ⟨y,h,e⟩=>⟨y,(hm2 y).mp h,e⟩,fun ⟨y,h,e⟩=>⟨y,(hm2 y).mpr h,e⟩⟩
 ·rintro e ⟨out,e2,e3,e4,e5,hm,hl,s2,s3,s4,s5,rfl⟩;rw [Gg,Hy] at hm;walk_at "pu";have htx:∀ x∈out,Tx x:=fun x hx=>F.1.2 x ((hm x).mp hx);have O:=kU (K:=[]) ⟨List.Pairwise.nil,fun k hk=>by cases hk⟩ htx;have ho:∀ x,x∈out.foldl bT []↔x∈FF Ts:=fun x=>by rw [O.2,<-hm];simp
  have kl:=I0 (l₂:=FF Ts) O.1.1 fun x hx=>(ho x).mp hx;have hf:=F.2;refine oG (ds:=out) rfl (fun d hd=>⟨(htx d hd).hk.2.1,(htx d hd).hk.2.2⟩) (by omega) (j7 O.1) ?_;rw [su O.1 F.1 ho];walk_at "pu";exact q
theorem BQ {q c:Nat} (h0:97<=c) (h1:c<=122):∀ y∈Builtin.Str.reprChar q c,y < 0x110000:=by
 have pc:∀ c < 123,97<=c->Unicode.isPrintable c=true:=by decide +kernel
 have e1:(c==10)=false:=by simp;omega
 have e2:(c==13)=false:=by simp;omega
 have e3:(c==9)=false:=by simp;omega
 intro y hy;unfold Builtin.Str.reprChar at hy;simp only [e1,e2,e3,pc c (by omega) h0,Im,Hc,HP] at hy;split at hy
 ·simp only [Gv,Hk,HL] at hy;omega
 ·simp only [Gv,Hk,HL] at hy;omega
theorem pb {q:Nat}:∀ (l:List Nat) (acc:Array Nat),(∀ c∈l,97<=c/\c<=122)->(∀ y∈acc.toList,y < 0x110000)->∀ y∈(l.foldl (fun out c=>out++(Builtin.Str.reprChar q c).toArray) acc).toList,y < 0x110000
 | [],acc,_,h=>h
 | c :: l,acc,hc,h=>by
  rw [HR];refine pb l _ (fun d hd=>hc d (Gp _ hd)) fun y hy=>?_;simp only [Array.toList_append,GS] at hy;rcases hy with hy | hy
  ·exact h y hy
  ·exact BQ (hc c Gm).1 (hc c Gm).2 y hy
theorem xE {x:Str}:PyData.strOk x=true↔∀ y∈x.cps.toList,y < 0x110000:=by
 unfold PyData.strOk;rw [Jl];simp
theorem ym (x:Str):reprQuote x < 0x110000:=by unfold reprQuote;split <;> decide
theorem xc {x:Str} (h:Ltr x):PyData.strOk (reprText x)=true:=by
 rw [xE];intro y hy;unfold reprText at hy;simp only [IV,GS,Gn] at hy;rcases hy with hy | rfl
 ·rw [<- Array.foldl_toList] at hy;refine pb _ _ h (fun y hy=>?_) y hy;have e:y=reprQuote x:=by simpa using hy
  rw [e];exact ym x
 ·exact ym x
theorem qC {x:Str} (h:Ltr x) (hl:x.length<=8):(reprText x).length<=82:=by
 have:=StrLaws.reprText_len x fun c hc=>Nat.lt_of_le_of_lt (h c hc).2 (by decide);omega
theorem kQ:∀ {ts:List Str},(∀ t∈ts,PyData.strOk t=true)->PyData.strOk (Str.join ", " ts)=true
 | [],_=>by decide +kernel
 | [x],h=>h x Gm
 | x :: y :: r,h=>bh (bh (h x Gm) (aC ", ")) (kQ fun t ht=>h t (Gp _ ht))
theorem Ek {ts:List Str} (h:∀ t∈ts,PyData.strOk t=true):PyData.strOk (listText ts)=true:=by
 rw [listText_eq_join];exact bh (bh (aC "[") (kQ h)) (aC "]")
theorem DD {ts:List Str} (h:∀ t∈ts,PyData.strOk t=true):PyData.strOk (tupleText ts)=true:=by
 unfold tupleText;exact bh (bh (aC "(") (kQ h)) (by split <;> exact aC _)
theorem yf (ds:List PyData):PyData.shownAll ds=ds.map PyData.shown:=by
 induction ds with
 | nil=>rfl
 | cons d r ih=>rw [PyData.shownAll,ih];rfl
theorem DR {ds:List PyData} (h:∀ d∈ds,d.showable=true):PyData.showableAll ds=true:=by
 induction ds with
 | nil=>rfl
 | cons d r ih=>rw [PyData.showableAll,h d Gm,ih fun x hx=>h x (Gp _ hx)];rfl
theorem xY {s:Str} (h:Sg s):Ltr s/\s.length<=8:=by
 unfold Ltr;rcases h with rfl | rfl <;> decide +kernel
theorem sV {a o s:Str} (ha:Nm a) (ho:Nm o) (hs:Sg s):PyData.strOk (tr a o s).shown=true/\(tr a o s).shown.length<=300:=by
 have e:(tr a o s).shown=tupleText [reprText a,reprText o,reprText s]:=by simp [PyData.shown,PyData.shownAll]
 have S:=xY hs;rw [e];constructor
 ·refine DD fun t ht=>?_;simp only [Gv,Hk,HL] at ht;rcases ht with rfl | rfl | rfl
  ·exact xc ha.1
  ·exact xc ho.1
  ·exact xc S.1
 ·have:=tupleText_len_le [reprText a,reprText o,reprText s];have:=qC ha.1 ha.2.2;have:=qC ho.1 ho.2.2;have:=qC S.1 S.2;simp only [List.map_cons,List.map_nil,List.sum_cons,List.sum_nil,GH,Ig] at *;omega
theorem CU {ds:List PyData} (hl:ds.length < 300) (h:∀ d∈ds,∃ a o s,Nm a/\Nm o/\Sg s/\d=tr a o s):u0 (.list ds)=true:=by
 have S:∀ d∈ds,PyData.strOk d.shown=true/\d.shown.length<=300:=fun d hd=>by
  obtain ⟨a,o,s,ha,ho,hs,rfl⟩:=h d hd;exact sV ha ho hs
 rw [iZ];refine ⟨?_,?_,GU (iB (k:=1) fun d hd=>?_) (by decide),?_,?_⟩
 ·simp only [noD];exact eh.mpr fun d hd=>by
   obtain ⟨a,o,s,_,_,_,rfl⟩:=h d hd;rfl
 ·simp only [PyData.showable];exact DR fun d hd=>by
   obtain ⟨a,o,s,_,_,_,rfl⟩:=h d hd;rfl
 ·obtain ⟨a,o,s,_,_,_,rfl⟩:=h d hd;simp [PyData.depth,PyData.depthAll]
 ·have e:(PyData.list ds).shown=listText (ds.map PyData.shown):=by rw [PyData.shown,yf]
  rw [e];have h1:=listText_len_le (ds.map PyData.shown);have h2:=om (k:=300) (ss:=ds.map PyData.shown) fun s hs=>by
   obtain ⟨d,hd,rfl⟩:=GO.mp hs;exact (S d hd).2
  rw [Gg] at h1 h2;rw [Hm];have:300*ds.length<=300*300:=Nat.mul_le_mul_left _ (by omega);omega
 ·have e:(PyData.list ds).shown=listText (ds.map PyData.shown):=by rw [PyData.shown,yf]
  rw [e];exact Ek fun t ht=>by
   obtain ⟨d,hd,rfl⟩:=GO.mp ht;exact (S d hd).1
theorem iY {ns:List Str} {Ts:List Shp} (G:Good ns Ts):u0 (.list (fG tyS (FF Ts)))=true:=by
 have F:=qF G;have pm:=iW tyS (FF Ts);refine CU (by rw [pm.length_eq];exact F.2) fun d hd=>?_;obtain ⟨t,ht,y,hy,rfl⟩:=uV.mp (pm.mem_iff.mp hd);obtain ⟨o,s,ho,hs,rfl,e1⟩:=fe (a:=t.1) ((G.sp t ht).mem y hy);exact ⟨t.1,o,s,G.tn t ht,G.nm o ho,hs,e1⟩
theorem ins_map {α β:Type} (f:α->β) (xs:List α) (j:Nat) (y:α):ko (xs.map f) j (f y)=(ko xs j y).map f:=by
 simp [ko]
theorem rW {α:Type} {xs ys:List α} {j:Nat} {y:α} (h:xs.Perm ys):(ko xs j y).Perm (ys++[y]):=by
 unfold ko;refine (List.perm_middle.trans (List.Perm.cons _ ?_)).trans (List.perm_append_comm (l₁:=[y]) (l₂:=ys));rw [IW];exact h
theorem kG {cs:List Int} {B:Nat} {pn:PyData} {xs:List Str} {Q:PR->List PyData->Prop} (hP:bf cs B pn) (hb:B < 2 ^ 57) (xl:xs.length<=20) (q:∀ (ys:List Str) pn',ys.Perm xs->bf cs (B+20) pn'->Q (.frs (.list (ys.map .str))) [pn']):WF dH [pn,.list (xs.map .str)] Q:=by
 refine fE rfl ?_;unfold fY;walk_at "pp";refine ja rfl (cf (fun i e=>∃ (ys:List Str) (pn':PyData),ys.Perm (xs.take i)/\bf cs (B+i) pn'/\qX [some (.ino pn'),some (.dat (.list (xs.map .str))),some (.own (.list (ys.map .str))),none] e) ⟨[],pn,by simp,hP,by walk_at "L"⟩ ?_ ?_)
 ·rintro i d e hd ⟨ys,pn',hp,hP',_⟩;walk_at "l";rw [GB] at hd;obtain ⟨x,hx,rfl⟩:=GW.mp hd;have hi:i < xs.length:=(Gh.mp hx).1;have yl:ys.length=i:=by rw [hp.length_eq,GX];omega
  have yl2:((ys.map PyData.str).length:Int)=i:=by rw [Gg,yl]
  walk_at "f";walk_at "d";intro v pn1 hP1 v0 v1;walk_at "n";walk_at "pp";refine Cq rfl (by rw [Gg,yl];show _ < 2 ^ 24;omega) rfl v0 (by omega) ?_;exact ⟨ko ys v.toNat x,pn1,by rw [<- L2.take_snoc hx];exact rW hp,hP1,by rw [<- ins_map];walk_at "L"⟩
 ·rintro e ⟨ys,pn',hp,hP',_⟩;walk_at "l";rw [Gg,Hy] at hp;rw [Gg] at hP';walk_at "pp";exact q ys pn' hp (hP'.mono (by omega))
theorem jZ {cs:List Int} {B:Nat} {pn:PyData} {Q:PR->List PyData->Prop} (hP:bf cs B pn) (hb:B < 2 ^ 55) (q:∀ (ns:List Str) (Ts:List Shp) pn',Good ns Ts->bf cs (B+20000) pn'->Q (.frs (.list (Ts.map Shp.enc))) [pn']):WF br [pn] Q:=by
 refine fE rfl ?_;unfold d5;walk_at "d";intro c pn1 hP1 c0 c1;walk_at "n";walk_at "d";intro k pn2 hP2 k0 k1;walk_at "n";walk_at "pz";have hm:∃ m:Int,0<=m/\m<=12/\atI [PyData.int c,.int 12] (if PyData.eqv (.int k) (.int 7)=true then 1 else 0)=some (.int m):=by
  by_cases h:PyData.eqv (.int k) (.int 7)=true
  ·rw [Gs h];exact ⟨12,by decide,by decide,rfl⟩
  ·rw [Gy h];exact ⟨c,c0,by omega,rfl⟩
 obtain ⟨m,m0,m1,em⟩:=hm;refine iX rfl em ?_;walk_at "pz";refine ax (ds:=[pn2,.int m]) (is:=[0]) rfl rfl (lW hP2 (by omega) m0 m1 fun ns pn3 hP3 nl nd nm=>⟨rfl,?_⟩);walk_at "n";walk_at "pp";refine ax (ds:=[pn3,.int 2]) (is:=[0]) rfl rfl (lW hP3 (by omega) (by decide) (by decide) fun ts pn4 hP4 tl _ tm=>⟨rfl,?_⟩);walk_at "n";walk_at "pp";refine ax (ds:=[pn4,.list (ns.map .str)]) (is:=[0]) rfl rfl (kG hP4 (by omega) (by omega) fun ys pn5 hp hP5=>⟨rfl,?_⟩);walk_at "n";have yn:ys.Nodup:=hp.nodup_iff.mpr nd;have yl:ys.length<=12:=by rw [hp.length_eq];omega
 refine ja rfl (cf (fun i e=>∃ (Ts:List Shp) (pn':PyData),Ts.map (·.1)=ys.take i/\(∀ t∈Ts,Sp ns t)/\bf cs (B+62+i*1282) pn'/\qX [some (.ino pn'),some (.dat (.list (ns.map .str))),some (.dat (.list (ts.map .str))),some (.own (.list (Ts.map Shp.enc))),none,none,none] e) ⟨[],pn5,rfl,(fun t h=>by cases h),hP5.mono (by omega),by walk_at "L"⟩ ?_ ?_)
 ·rintro i d e hd ⟨Ts,pn',hT,hS,hP',_⟩;walk_at "l";rw [GB] at hd;obtain ⟨x,hx,rfl⟩:=GW.mp hd;have hi:i < ys.length:=(Gh.mp hx).1;have hm2:i*1282<=12*1282:=IC _ (by omega);have Tl:Ts.length=i:=by have:=congrArg List.length hT;rw [Gg,GX] at this;omega
  walk_at "f";walk_at "d";intro v pn6 hP6 v0 v1;walk_at "n";walk_at "pp";obtain ⟨wd,⟨w,rfl⟩,e⟩:=cH (fun d=>∃ x:Str,d=.str x) (ds:=[.str "least", .str "greatest"]) v0 v1 (by simp);refine iX rfl e ?_;clear e;walk_at "n";walk_at "d";intro g pn7 hP7 g0 g1;walk_at "n";walk_at "pp";have p3:4 ^ g.toNat<=4 ^ 3:=Ih (by decide) (by omega);refine aU (xa 5) (is:=[0]) (ds:=[pn7,.list (ns.map .str),.list (([]:List Str).map .str),.list (ts.map .str),.int g]) rfl rfl (oE 5 (k:=g.toNat) (by omega) (by omega) hP7 (by omega) (fun x h=>h) (fun x h=>by cases h) (by omega) (by decide) (by omega) (by omega) (fun x h=>(tm x h).2.2) fun d pn8 hd hP8=>⟨rfl,?_⟩);obtain ⟨L,S⟩:=D5 (a:=x) (w:=w) (by omega) (hd.le (show g.toNat+2<=5 by omega));walk_at "n";walk_at "pp";refine ki rfl (by rw [Gg,Tl];show _ < 2 ^ 24;omega) rfl ?_;exact ⟨Ts++[(x,w,d,L)],pn8,by rw [Hi,hT,<-L2.take_snoc hx];rfl,i6 hS S,hP8.mono (by rw [Nat.add_mul];omega),by rw [Hi];walk_at "L"⟩
 ·rintro e ⟨Ts,pn',hT,hS,hP',_⟩;walk_at "l";rw [Gg] at hT hP';rw [Hy] at hT;have hm2:ys.length*1282<=12*1282:=IC _ yl;have Tl:Ts.length=ys.length:=by have:=congrArg List.length hT;rwa [Gg] at this
  walk_at "pp";exact q ns Ts pn' ⟨by rw [hT];exact yn,by omega,by omega,nm,hS,fun t ht=>nm _ (hp.mem_iff.mp (by rw [<- hT];exact GO.mpr ⟨t,ht,rfl⟩))⟩ (hP'.mono (by omega))
theorem vK {ns:List Str} {Ts:List Shp} (G:Good ns Ts):fH (.list (Ts.map Shp.enc))=true:=by
 have T:∀ d∈Ts.map Shp.enc,noD d=true/\d.depth<=13:=fun d hd=>by
  obtain ⟨t,ht,rfl⟩:=GO.mp hd;have S:=(G.sp t ht).ok;exact fy fun d hd=>by
   simp only [Gv,Hk,HL] at hd;rcases hd with rfl | rfl | rfl
   ·exact ⟨rfl,by rw [ji];omega⟩
   ·exact ⟨rfl,by rw [ji];omega⟩
   ·exact S
 refine w5 ?_ (GU (iB fun d hd=>(T d hd).2) (by decide));simp only [noD];exact eh.mpr fun d hd=>(T d hd).1
local macro_rules | `(tactic| walk_at "pv1")=>`(tactic| ((fail_if_success (with_reducible refine BS ?_));walk_at "ps1"))
local macro_rules | `(tactic| walk_at "pv")=>`(tactic| repeat walk_at "pv1")
theorem Ay:bt.F [.list []]=some (.frs (.list []),[]):=by rfl
theorem zr:bt.F [.list [.tuple [.str "a", .str "least", .tuple [.str "not", .tuple [.str "keeps", .str "a"]]]]]=some (.frs (.list [.tuple [.str "a", .str "a", .str "against"]]),[]):=by rfl
theorem tD {ns:List Int} (hl:ns.length<=63):WF uS [.list (ns.map .int)] fun pr outs=>pr=.dat (.bool true)/\outs=[]:=by
 refine fE rfl ?_;unfold um;walk_at "pp";refine ax (ds:=[.list (ns.map .int)]) (is:=[]) rfl rfl (yU ⟨rfl,?_⟩);have hP:bf ns 0 (tF ns 0 0):=⟨0,0,rfl,by decide,by decide,by decide⟩;generalize tF ns 0 0=pn at hP;walk_at "n";walk_at "pp";refine ax (ds:=[pn]) (is:=[1]) rfl rfl (jZ hP (by decide) fun n1 T1 pn1 G1 hP1=>⟨rfl,?_⟩);walk_at "n";walk_at "pp";refine ax (ds:=[pn1]) (is:=[1]) rfl rfl (jZ hP1 (by decide) fun n2 T2 pn2 G2 hP2=>⟨rfl,?_⟩);walk_at "n";walk_at "pp";refine cf (fun i e=>qX [some (.dat (.list (ns.map .int))),some (.own pn2),some (.dat (.list (T1.map Shp.enc))),some (.dat (.list (T2.map Shp.enc))),none,none,none,none] e) (by walk_at "L") ?_ ?_
 ·rintro i d e hd _;have hg:∃ m Ts,d=.list (List.map Shp.enc Ts)/\Good m Ts:=by
   have hm:=Gx hd;simp only [Gv,Hk,HL] at hm;rcases hm with rfl | rfl | rfl
   ·exact ⟨_,_,rfl,G1⟩
   ·exact ⟨_,_,rfl,G2⟩
   ·exact ⟨_,_,rfl,G1⟩
  clear hd;obtain ⟨m,Ts,rfl,G⟩:=hg;rename_i hL;revert hL;intro _;walk_at "l";walk_at "f";walk_at "pp";refine ax (ds:=[.list (Ts.map Shp.enc)]) (is:=[]) rfl rfl (tE G ⟨rfl,?_⟩);walk_at "n";walk_at "pp";refine ax (ds:=[.list (Ts.map Shp.enc)]) (is:=[]) rfl rfl (Ab G ⟨rfl,?_⟩);walk_at "n";walk_at "pv";refine lC rfl (iY G) ?_;walk_at "pv";refine lC rfl (iY G) ?_;walk_at "ps";refine v8 rfl rfl ?_;walk_at "ps";refine v8 rfl (vK G) ?_;walk_at "pp";refine ki rfl (by rw [(iW tyS (FF Ts)).length_eq];have:=(qF G).2;show _ < 2 ^ 24;omega) rfl ?_;walk_at "n";walk_at "pp";refine ax (ds:=[.tuple (Ts.map Shp.enc)]) (is:=[]) rfl rfl (zq G ⟨rfl,?_⟩);walk_at "pv";refine lC rfl (iY G) ?_;walk_at "pv";refine lC rfl (iY G) ?_;walk_at "ps";refine v8 rfl rfl ?_;walk_at "pp";walk_at "L"
 ·rintro e _;walk_at "l";walk_at "pp";refine ax (ds:=[.list []]) (is:=[]) rfl rfl ⟨_,_,Ay,rfl,?_⟩;walk_at "ps";refine xF rfl rfl ?_;walk_at "pp";refine ax (ds:=[.list [.tuple [.str "a", .str "least", .tuple [.str "not", .tuple [.str "keeps", .str "a"]]]]]) (is:=[]) rfl rfl ⟨_,_,zr,rfl,?_⟩;walk_at "ps";refine xF rfl rfl ?_;walk_at "pp";exact ⟨rfl,rfl⟩
end K26
end
namespace PySem.W.Fast
noncomputable def tw8642010474023164183:=()
noncomputable def tw10369844437394794394:=()
noncomputable def tw8900679855542037892:=()
noncomputable def tw7322923682050939992:=()
noncomputable def tw10256793754421727298:=()
noncomputable def tw3315738355839480231:=()
noncomputable def tw413308601531601878:=()
noncomputable def tw15061378942600340839:=()
noncomputable def tw7344867485566295369:=()
noncomputable def tw15440031482685779795:=()
noncomputable def tw16777204216093683838:=()
noncomputable def tw11461188769649857636:=()
noncomputable def tw6121800722682243210:=()
noncomputable def tw9483169130240032218:=()
noncomputable def tw14144866414155931406:=()
noncomputable def tw15728006689618753462:=()
noncomputable def tw17879832098914784804:=()
noncomputable def tw16470843841072642092:=()
noncomputable def tw14066439669555551112:=()
noncomputable def tw8648754945257220873:=()
noncomputable def tw5252667384698561999:=()
noncomputable def tw9069817347681382246:=()
noncomputable def tw4940543072992256386:=()
noncomputable def tw12233538855382978431:=()
noncomputable def tw11702853784014880828:=()
noncomputable def tw2198245418320139544:=()
noncomputable def tw3107811560881181248:=()
noncomputable def tw16595852512889946189:=()
noncomputable def tw5582359246918687826:=()
noncomputable def tw17035672494103752507:=()
noncomputable def tw10407236168854891693:=()
noncomputable def tw16621103735307109720:=()
noncomputable def tw9594351254522996193:=()
noncomputable def tw9979020479498199111:=()
noncomputable def tw3849222825020972406:=()
noncomputable def tw2862888335705544986:=()
noncomputable def tw8558217492540477917:=()
noncomputable def tw6473892350198642642:=()
noncomputable def tw9607477447105788660:=()
noncomputable def tw15650488071934162791:=()
noncomputable def tw5860902632396968462:=()
noncomputable def tw2619751230156388458:=()
noncomputable def tw10758136773680576402:=()
noncomputable def tw17610830795462255791:=()
noncomputable def tw9923000478040777890:=()
noncomputable def tw10348974722993000763:=()
noncomputable def tw9204384913471946641:=()
end PySem.W.Fast
open PySem PySem.W PyProof.Rows
set_option maxRecDepth 100000 in
set_option maxHeartbeats 0 in
theorem PySem.Challenge.cw_webshapes_k26_what_hangs_on_what_holds : PySem.Challenge.rw_webshapes_k26_what_hangs_on_what.Holds := by
  w_on; (refine holds_law L2.ws fun said => ?_); k_head; (case hw => w_witness2)
  k_fill
  refine L2.rz (l := PySem.Challenge.rw_webshapes_k26_what_hangs_on_what) (n := 63) (k := 14) (x := "_law_script") (CX := L2.CX0) (sp := K26.oX) rfl (by decide) rfl ⟨rfl, by decide, by decide, rfl⟩ (fun w h Y => PySem.W.kIn_of Y) ?F ?S ?C
  case F =>
    intro w mg fa h KX G hmg;have TT : ∃ t : K26.Adr, (∀ (s : Shared) (u : Value), BindsTo s (t.f 16).2 ⟨[u], []⟩ [("_law_script", u)]) ∧ K26.Txt w (L2.KOf KX) mg t := by
      dsimp only [L2.KOf];refine' K26.yE KX G ?D ?z_abs ?z_int ?z_len ?z_list ?z_min ?z_range ?z_repr ?z_set ?z_sorted ?z_tuple ?g_LISTS ?s_LISTS ?g_WALKS ?s_WALKS ?g_TURNED ?d_TURNED ?q_TURNED ?y_TURNED ?n_TURNED ?v_TURNED_0 ?v_TURNED_1
      (case D => (iterate 17 refine L2.BJ KX G (by k_is) (by k_is) (by k_is) (by k_is) (by first | exact fun _ _ _ _ _ _ => L2.us1 fun _ => rfl | exact fun _ _ _ _ _ _ => L2.us2 fun _ _ => rfl | exact fun _ _ _ _ _ _ => L2.us3 fun _ _ _ => rfl | exact fun _ _ _ _ _ _ => L2.us4 fun _ _ _ _ => rfl | exact fun _ _ _ _ _ _ => L2.us5 fun _ _ _ _ _ => rfl) ?_); exact True.intro)
      (case z_abs => k_is)
      (case z_int => k_is)
      (case z_len => k_is)
      (case z_list => k_is)
      (case z_min => k_is)
      (case z_range => k_is)
      (case z_repr => k_is)
      (case z_set => k_is)
      (case z_sorted => k_is)
      (case z_tuple => k_is)
      (case g_LISTS => k_is)
      (case s_LISTS => k_is)
      (case g_WALKS => k_is)
      (case s_WALKS => k_is)
      (case g_TURNED => k_is)
      (case d_TURNED => k_is)
      (case q_TURNED => exact ⟨⟨_, _, rfl, rfl⟩, ⟨⟨_, _, rfl, rfl⟩, trivial⟩⟩)
      (case y_TURNED => decide)
      (case n_TURNED => exact rfl)
      (case v_TURNED_0 => k_is)
      (case v_TURNED_1 => k_is)
    obtain ⟨t, hb, T⟩ := TT;have e : some (Value.ref fa) = some (Value.ref (t.f 16).1) := hmg.symm.trans (T.d 16 rfl).m;have e' : fa = (t.f 16).1 := by injection e with e; injection e
    subst e';exact ⟨(t.f 16).2, hb, fun base _ _ => K26.A8 T⟩
  case S => exact fun K H a ns hl _ hS => L2.zV rfl hl hS (by obtain ⟨pr, outs, h, rfl, rfl⟩ := K26.tD hl; exact h)
  case C => exact fun _ _ _ _ z => z

