import PyProof.Rows.All
import Wide.All
import OpenK.AllK
import Wide.FinOn
import Lean
import PyProof.EqAt
import PyProof.EqKinds
import PyProof.TupleCall
import PyProof.ConsumeWalk
import PyProof.EqLayable
import PyProof.ReprRoads
import PyProof.StrWalks
import PyProof.SliceStr2
import PyProof.StrLawsIn
import PyProof.StrLawsRepr
import PyProof.SliceList
import PyProof.Rows.FStr
import PyProof.CallStr
import PyProof.Rows.SeqMore
import PyProof.ListStr
import PyProof.Claim2Refuses
import PyProof.Rows.SetFrom
import PyProof.Rows.StrMeet
import PyProof.WalksMore
import PyProof.StrCalls
import PyProof.ListMulRoad
import PyProof.MaxThree
import PyProof.Rows.SumAny
import PyProof.AutoSeq1
import PyProof.StrBlock2
import PyProof.ZipIter
import PyProof.Rows.ZipGen
import PyProof.Rows.CallKwBuiltin
import PyProof.Rows.SortRuns
import KE.KIsAll
import PyProof.DictTruth
import OpenK.KOwn
import KE.KIntText
import PySem.Challenge.RW_webshapes_k09_facts_put_in_and_taken_out
set_option compiler.extract_closed false
set_option bootstrap.genMatcherCode false
set_option Elab.async false
set_option linter.all false
set_option maxRecDepth 100000
set_option maxHeartbeats 4000000
section
open PySem PySem.Spec PyProof.Rows PySem.W
theorem Jp:type_of% @wpAny_bind:=@wpAny_bind
theorem Jq:type_of% @List.getElem?_eq_getElem:=@List.getElem?_eq_getElem
theorem Jr:type_of% @List.length_append:=@List.length_append
theorem Js:type_of% @List.getElem?_eq_some_iff:=@List.getElem?_eq_some_iff
theorem Jt:type_of% @List.length_map:=@List.length_map
theorem Ju:type_of% @List.getElem?_set_ne:=@List.getElem?_set_ne
theorem Jv:type_of% @List.getElem?_append_right:=@List.getElem?_append_right
theorem Jw:type_of% @wpAny_pure:=@wpAny_pure
theorem Jx:type_of% @List.mem_append_right:=@List.mem_append_right
theorem Jy:type_of% @List.mem_cons_self:=@List.mem_cons_self
theorem Jz:type_of% @if_neg:=@if_neg
theorem JB:type_of% @if_pos:=@if_pos
theorem JD:type_of% @List.mem_singleton:=@List.mem_singleton
theorem JH:type_of% @Nat.le_refl:=@Nat.le_refl
theorem JJ:type_of% @List.mem_cons_of_mem:=@List.mem_cons_of_mem
theorem JK:type_of% @List.getElem?_set_self:=@List.getElem?_set_self
theorem JL:type_of% @Bool.false_ne_true:=@Bool.false_ne_true
theorem JM:type_of% @List.getElem?_append_left:=@List.getElem?_append_left
theorem JN:type_of% @Heap.get?_push_of_some:=@Heap.get?_push_of_some
theorem JR:type_of% @List.size_toArray:=@List.size_toArray
theorem JU:type_of% @List.getElem?_map:=@List.getElem?_map
theorem JV:type_of% @List.mem_cons:=@List.mem_cons
theorem JX:type_of% @Heap.lt_size:=@Heap.lt_size
theorem JY:type_of% @wpS_pure:=@wpS_pure
theorem JZ:type_of% @List.pairwise_append:=@List.pairwise_append
theorem J0:type_of% @List.append_assoc:=@List.append_assoc
theorem J1:type_of% @wpS_bind:=@wpS_bind
theorem J2:type_of% @List.length_cons:=@List.length_cons
theorem J3:type_of% @decide_eq_false:=@decide_eq_false
theorem J4:type_of% @Nat.lt_of_lt_of_le:=@Nat.lt_of_lt_of_le
theorem J5:type_of% @List.mem_of_getElem?:=@List.mem_of_getElem?
theorem J6:type_of% @decide_eq_true:=@decide_eq_true
theorem J7:type_of% @Option.map_eq_some_iff:=@Option.map_eq_some_iff
theorem J8:type_of% @List.length_set:=@List.length_set
theorem J9:type_of% @List.mem_append_left:=@List.mem_append_left
theorem Ka:type_of% @Nat.le_trans:=@Nat.le_trans
theorem Kb:type_of% @List.mem_append:=@List.mem_append
theorem Kc:type_of% @Heap.get?_push_size:=@Heap.get?_push_size
theorem Kd:type_of% @List.eq_nil_of_length_eq_zero:=@List.eq_nil_of_length_eq_zero
theorem Ke:type_of% @wpAny_mono:=@wpAny_mono
theorem Kf:type_of% @List.nodup_append:=@List.nodup_append
theorem Kg:type_of% @beq_iff_eq:=@beq_iff_eq
theorem Kh:type_of% @List.mem_map:=@List.mem_map
theorem Ki:type_of% @List.getD_eq_getElem?_getD:=@List.getD_eq_getElem?_getD
theorem Kj:type_of% @List.append_nil:=@List.append_nil
theorem Kk:type_of% @Nat.ne_of_lt:=@Nat.ne_of_lt
theorem Kl:type_of% @Bool.and_eq_true:=@Bool.and_eq_true
theorem Km:type_of% @Option.some.inj:=@Option.some.inj
theorem Ko:type_of% @List.map_append:=@List.map_append
theorem Kp:type_of% @List.length_take:=@List.length_take
theorem Kq:type_of% @of_decide_eq_true:=@of_decide_eq_true
theorem Kr:type_of% @Nat.lt_irrefl:=@Nat.lt_irrefl
theorem Ks:type_of% @beq_self_eq_true:=@beq_self_eq_true
theorem Kt:type_of% @wpAny_truthy_bool:=@wpAny_truthy_bool
theorem Ku:type_of% @sizeLine_eq:=@sizeLine_eq
theorem Kv:type_of% @List.pairwise_iff_getElem:=@List.pairwise_iff_getElem
theorem Kw:type_of% @Array.getElem?_eq_getElem:=@Array.getElem?_eq_getElem
theorem Kx:type_of% @PySem.W.mg_none_of:=@PySem.W.mg_none_of
theorem Kz:type_of% @List.length_range:=@List.length_range
theorem KA:type_of% @Nat.zero_le:=@Nat.zero_le
theorem KC:type_of% @List.nodup_cons:=@List.nodup_cons
theorem KD:type_of% @wpS_forRange:=@wpS_forRange
theorem KG:type_of% @Array.length_toList:=@Array.length_toList
theorem KH:type_of% @List.take_length:=@List.take_length
theorem KI:type_of% @List.mem_nil_iff:=@List.mem_nil_iff
theorem KJ:type_of% @wpAny_holding:=@wpAny_holding
theorem KL:type_of% @List.take_of_length_le:=@List.take_of_length_le
theorem KN:type_of% @List.length_nil:=@List.length_nil
theorem KO:type_of% @List.drop_eq_getElem_cons:=@List.drop_eq_getElem_cons
theorem KP:type_of% @wpAny_execs_cons:=@wpAny_execs_cons
theorem KQ:type_of% @List.pairwise_cons:=@List.pairwise_cons
theorem KR:type_of% @List.set_set:=@List.set_set
theorem KU:type_of% @wpAny_newObj_type:=@wpAny_newObj_type
theorem KW:type_of% @wpAny_rule:=@wpAny_rule
theorem KY:type_of% @wpAny_execs_nil:=@wpAny_execs_nil
theorem KZ:type_of% @wpS_mono:=@wpS_mono
theorem K0:type_of% @Heap.get?_update_other:=@Heap.get?_update_other
theorem K1:type_of% @wpAny_call_entry:=@wpAny_call_entry
theorem K2:type_of% @List.mem_reverse:=@List.mem_reverse
theorem K3:type_of% @List.length_drop:=@List.length_drop
theorem K4:type_of% @List.perm_ext_iff_of_nodup:=@List.perm_ext_iff_of_nodup
theorem K5:type_of% @Bool.false_eq_true:=@Bool.false_eq_true
theorem K6:type_of% @List.pairwise_reverse:=@List.pairwise_reverse
theorem K7:type_of% @List.mem_iff_getElem?:=@List.mem_iff_getElem?
theorem K8:type_of% @Heap.get?_update_self:=@Heap.get?_update_self
theorem K9:type_of% @wpAny_dictEpoch:=@wpAny_dictEpoch
theorem La:type_of% @wpAny_dictEntries:=@wpAny_dictEntries
theorem Lb:type_of% @Bool.true_and:=@Bool.true_and
theorem Lc:type_of% @List.filterMap_cons:=@List.filterMap_cons
theorem Ld:type_of% @wpAny_callSpecial?_slot:=@wpAny_callSpecial?_slot
theorem Le:type_of% @Nat.add_sub_cancel_left:=@Nat.add_sub_cancel_left
theorem Lf:type_of% @List.all_eq_true:=@List.all_eq_true
theorem Lg:type_of% @List.Perm.refl:=@List.Perm.refl
theorem Lh:type_of% @if_false:=@if_false
theorem Li:type_of% @PySem.W.kia_one:=@PySem.W.kia_one
theorem Lj:type_of% @PySem.W.mg_of:=@PySem.W.mg_of
theorem Ll:type_of% @List.length_singleton:=@List.length_singleton
theorem Lm:type_of% @List.Perm.append_left:=@List.Perm.append_left
theorem Ln:type_of% @wpAny_loadPart_at:=@wpAny_loadPart_at
theorem Lo:type_of% @Bool.not_eq_true':=@Bool.not_eq_true'
theorem Lp:type_of% @bind_congr:=@bind_congr
theorem Lq:type_of% @Obj.data_mapDictKeys:=@Obj.data_mapDictKeys
theorem Lr:type_of% @Nat.lt_succ_self:=@Nat.lt_succ_self
theorem Ls:type_of% @List.map_map:=@List.map_map
theorem Lu:type_of% @Classical.byContradiction:=@Classical.byContradiction
theorem Lv:type_of% @PySem.mem_of_lookup:=@PySem.mem_of_lookup
theorem Lw:type_of% @Obj.isFreed_of_dict:=@Obj.isFreed_of_dict
theorem Lx:type_of% @Paired.length:=@Paired.length
theorem Ly:type_of% @wpAny_passesOwn:=@wpAny_passesOwn
theorem Lz:type_of% @wpAny_ite_false:=@wpAny_ite_false
theorem LA:type_of% @PySem.W.kia_tup:=@PySem.W.kia_tup
theorem LB:type_of% @wpS_modify:=@wpS_modify
theorem LC:type_of% @of_decide_eq_false:=@of_decide_eq_false
theorem LF:type_of% @List.reverse_perm:=@List.reverse_perm
theorem LG:type_of% @List.flatten_cons:=@List.flatten_cons
theorem LH:type_of% @wpAny_forIn_list:=@wpAny_forIn_list
theorem LJ:type_of% @List.any_eq_true:=@List.any_eq_true
theorem LK:type_of% @wpAny_typeNameOfWhole_keyiter:=@wpAny_typeNameOfWhole_keyiter
theorem LL:type_of% @or_false:=@or_false
theorem LM:type_of% @wpAny_loadPart':=@wpAny_loadPart'
theorem LN:type_of% @F.slot_dict_keyiterator_next:=@F.slot_dict_keyiterator_next
theorem LO:type_of% @List.length_reverse:=@List.length_reverse
theorem LP:type_of% @Int.toNat_of_nonneg:=@Int.toNat_of_nonneg
theorem LQ:type_of% @Heap.SameBut.update:=@Heap.SameBut.update
theorem LR:type_of% @Nat.sub_self:=@Nat.sub_self
theorem LS:type_of% @Array.getD_eq_getD_getElem?:=@Array.getD_eq_getD_getElem?
theorem LU:type_of% @wpAny_Call_Name_kw:=@wpAny_Call_Name_kw
theorem LV:type_of% @List.drop_left:=@List.drop_left
theorem LW:type_of% @Int.emod_lt_of_pos:=@Int.emod_lt_of_pos
theorem LX:type_of% @Array.perm_iff_toList_perm:=@Array.perm_iff_toList_perm
theorem LY:type_of% @if_true:=@if_true
theorem LZ:type_of% @decide_eq_true_eq:=@decide_eq_true_eq
theorem L0:type_of% @List.pairwise_map:=@List.pairwise_map
theorem L3:type_of% @wpAny_typeNameOf_keyiter:=@wpAny_typeNameOf_keyiter
theorem L4:type_of% @List.any_cons:=@List.any_cons
theorem L5:type_of% @List.lookup_cons:=@List.lookup_cons
theorem L6:type_of% @List.getElem_mem:=@List.getElem_mem
theorem L7:type_of% @List.cons_append:=@List.cons_append
theorem L8:type_of% @wpS_get:=@wpS_get
theorem L9:type_of% @call_meets:=@call_meets
theorem Ma:type_of% @Nat.le_of_lt:=@Nat.le_of_lt
theorem Mb:type_of% @wpAny_specialOf:=@wpAny_specialOf
theorem Mc:type_of% @Option.map_some:=@Option.map_some
theorem Md:type_of% @List.mem_filter:=@List.mem_filter
theorem Me:type_of% @Int.emod_nonneg:=@Int.emod_nonneg
theorem Mf:type_of% @List.length_replicate:=@List.length_replicate
theorem Mh:type_of% @List.getElem?_toArray:=@List.getElem?_toArray
theorem Mi:type_of% @List.cons_lt_cons_iff:=@List.cons_lt_cons_iff
end
section
namespace L2
abbrev Fg:=PySem.W.Frag
set_option maxRecDepth 100000 in
set_option maxHeartbeats 0 in
theorem ws:PySem.W.OpenLaw.wellSaid PySem.Challenge.rw_webshapes_k09_facts_put_in_and_taken_out=true:=by decide +kernel
open PySem PySem.Spec PyProof.Rows
abbrev Key:=Sum Int Str
noncomputable def mE:Key->Value->Bool
 | .inl k,v=>Value.isInt k v
 | .inr x,v=>Value.isStrOf x v
noncomputable def HU (w:World):Key->Int
 | .inl k=>hashInt k
 | .inr x=>hashStr w x
theorem az:∀ {k:Key} {v:Value},mE k v=true->(∃ i t,k=Sum.inl i/\v=Value.int i t)\/(∃ x t,k=Sum.inr x/\v=Value.str x t)
 | .inl i,v,h=>by
  obtain ⟨t,e⟩:=Value.isInt_shape (k:=i) (v:=v) h;exact .inl ⟨i,t,rfl,e⟩
 | .inr x,v,h=>by
  obtain ⟨t,e⟩:=Value.isStrOf_shape (x:=x) (v:=v) h;exact .inr ⟨x,t,rfl,e⟩
theorem sU (i:Int) (t:Tok):mE (.inl i) (.int i t)=true:=by simp [mE,Value.isInt]
theorem t7 (x:Str) (t:Tok):mE (.inr x) (.str x t)=true:=by simp [mE,Value.isStrOf]
theorem DF (a b:Int):decide ((Sum.inl a:Key)=Sum.inl b)=(a==b):=by
 by_cases e:a=b
 ·subst e;simp
 ·have h:¬(Sum.inl a:Key)=Sum.inl b:=fun q=>e (Sum.inl.inj q);rw [J3 h];exact (beq_eq_false_iff_ne.mpr e).symm
theorem Dx (a b:Str):decide ((Sum.inr a:Key)=Sum.inr b)=decide (a=b):=by
 by_cases e:a=b
 ·subst e;simp
 ·have h:¬(Sum.inr a:Key)=Sum.inr b:=fun q=>e (Sum.inr.inj q);rw [J3 h,J3 e]
theorem C9 (a:Int) (b:Str):decide ((Sum.inl a:Key)=Sum.inr b)=false:=J3 (fun q=>nomatch q)
theorem Bm (a:Str) (b:Int):decide ((Sum.inr a:Key)=Sum.inl b)=false:=J3 (fun q=>nomatch q)
noncomputable def aY (prog:Program) (w:World):PySem.KeyKind prog w Key where
 is:=mE
 hash:=HU w
 inj:=fun v a b ha hb=>by
  rcases az ha with ⟨i,t,rfl,rfl⟩ | ⟨x,t,rfl,rfl⟩
  ·rcases az hb with ⟨j,u,rfl,e⟩ | ⟨y,u,rfl,e⟩
   ·injection e with e1 _;rw [e1]
   ·exact nomatch e
  ·rcases az hb with ⟨j,u,rfl,e⟩ | ⟨y,u,rfl,e⟩
   ·exact nomatch e
   ·injection e with e1 _;rw [e1]
 byValue:=fun k v h=>by
  rcases az h with ⟨i,t,rfl,rfl⟩ | ⟨x,t,rfl,rfl⟩ <;> rfl
 pyHash:=fun hv h=>by
  rcases az hv with ⟨i,t,rfl,rfl⟩ | ⟨x,t,rfl,rfl⟩
  ·exact wpAny_pyHash_int h
  ·exact wpAny_pyHash_str h
 eqBool:=fun hu hv h=>by
  rcases az hu with ⟨i,t,rfl,rfl⟩ | ⟨x,t,rfl,rfl⟩
  ·rcases az hv with ⟨j,u,rfl,rfl⟩ | ⟨y,u,rfl,rfl⟩
   ·rw [DF] at h;exact wpAny_eqBool_int h
   ·rw [C9] at h;exact SeqAt.EqAt.int_str i t y u _ _ _ _ h
  ·rcases az hv with ⟨j,u,rfl,rfl⟩ | ⟨y,u,rfl,rfl⟩
   ·rw [Bm] at h;exact SeqAt.EqAt.str_int x t j u _ _ _ _ h
   ·rw [Dx] at h;exact wpAny_eqBool_str h
 «strs»:=fun k x t v h=>by
  rcases az h with ⟨i,u,rfl,e⟩ | ⟨y,u,rfl,e⟩
  ·exact nomatch e
  ·injection e with e1 _;subst e1;cases v <;> rfl
theorem mR (prog:Program) (w:World) (i:Int) (t:Tok):(aY prog w).is (.inl i) (.int i t)=true:=sU i t
theorem mS (prog:Program) (w:World) (x:Str) (t:Tok):(aY prog w).is (.inr x) (.str x t)=true:=t7 x t
end L2
namespace L2
open PySem PySem.Spec PyProof.Rows
inductive V where
 | non | bl (b:Bool) | int (i:Int) | str (x:Str) | byt (b:Array UInt8) | flt (b:UInt64) | ref (a:Addr) | ty (n:String)
 deriving DecidableEq
def RelV:V->Value->Prop
 | .non,u=>u=Value.none
 | .bl b,u=>u=Value.bool b
 | .int i,u=>∃ t,u=Value.int i t
 | .str x,u=>∃ t,u=Value.str x t
 | .byt b,u=>∃ t,u=Value.bytes b t
 | .flt b,u=>∃ t,u=Value.float b t
 | .ref a,u=>u=Value.ref a
 | .ty n,u=>u=Value.type n
abbrev Vals:List V->List Value->Prop:=Paired RelV
theorem Vals.length {xs:List V} {us:List Value} (r:Vals xs us):xs.length=us.length:=Lx r
theorem Vals.get:∀ {xs:List V} {us:List Value} {i:Nat} {x:V},Vals xs us->xs[i]?=some x->∃ u,us[i]?=some u/\RelV x u
 | _,_,_,_,.nil,e=>by simp at e
 | _,_,0,_,.cons r _,e=>by simp at e;subst e;exact ⟨_,rfl,r⟩
 | _,_,i+1,x,.cons _ t,e=>by
  obtain ⟨u,h1,h2⟩:=Vals.get (i:=i) (x:=x) t (by simpa using e);exact ⟨u,by simpa using h1,h2⟩
theorem Vals.append:∀ {xs ys:List V} {us ws:List Value},Vals xs us->Vals ys ws->Vals (xs++ys) (us++ws)
 | _,_,_,_,.nil,s=>s
 | _,_,_,_,.cons r t,s=>.cons r (Vals.append t s)
theorem Vals.take:∀ {xs:List V} {us:List Value} (n:Nat),Vals xs us->Vals (xs.take n) (us.take n)
 | _,_,0,_=>.nil
 | _,_,_+1,.nil=>.nil
 | _,_,n+1,.cons r t=>.cons r (Vals.take n t)
theorem Vals.drop:∀ {xs:List V} {us:List Value} (n:Nat),Vals xs us->Vals (xs.drop n) (us.drop n)
 | _,_,0,r=>r
 | _,_,_+1,.nil=>.nil
 | _,_,n+1,.cons _ t=>Vals.drop n t
def Gk:Option V->Option Value->Prop
 | some v,some u=>RelV v u
 | none,none=>True
 | _,_=>False
def KV {κ:Type}:List (κ×V)->List (κ×Value)->Prop:=Paired fun (p:κ×V) (q:κ×Value)=>p.1=q.1/\RelV p.2 q.2
noncomputable def kV:Key->V
 | .inl i=>.int i
 | .inr x=>.str x
mutual
noncomputable def bJ (w:World):PyData->Int
 | .int i=>hashInt i
 | .str x=>hashStr w x
 | .tuple ds=>reduceHash (Builtin.Tuple.tupleHashOf (bW w ds))
 | _=>0
noncomputable def bW (w:World):List PyData->List Int
 | []=>[]
 | d :: ds=>bJ w d :: bW w ds
end
def zm (w:World) (x:PyData×V×V) (e:DictEntry):Prop:=e.hash=bJ w x.1/\RelV x.2.1 e.key/\RelV x.2.2 e.val
inductive HO where
 /-- a list -/
 | lst (xs:List V)
 /-- a tuple (never changes) -/
 | tup (xs:List V)
 /-- a dict whose keys are ints and texts;one whose keys are tuples of ints and texts (the empty one is both) -/
 | dK (kvs:List (Key×V)) | dT (kvs:List (List Key×V))
 /-- a dict by any hashable data: its epoch;the keys as data and as values,what they hold -/
 | dD (ep:Nat) (xs:List (PyData×V×V))
 /-- a set of ints: its members,its size -/
 | set (S:Int->Bool) (n:Nat)
 /-- an instance of the class at C,its dict at dx,its attributes -/
 | ins (C dx:Addr) (fs:List (Str×V))
 /-- the dict of the instance at x -/
 | own (x:Addr)
 /-- the dict of an exception -/
 | xd (fs:List (Str×V))
 /-- a bound method,f of x -/
 | met (f x:Addr)
 /-- a range object lo,lo+1,.. below hi -/
 | rng (lo hi:Int)
 /-- a aU that is known to the object (the script;a dict while a loop walks it): read,never written while it is so -/
 | frz (o:Obj) (u:HO)
 /-- a code object's table -/
 | tbl (ps:Array Value)
 /-- any other aU,by what is true of its one object (a def of one's own: Im a S n:=HO.ext fun h=>..) -/
 | ext (φ:Heap->Prop)
abbrev Hp:=Addr->Option HO
noncomputable def upd (H:Hp) (a:Addr) (o:HO):Hp:=fun b=>if b=a then some o else H b
theorem af {H:Hp} {a:Addr} {o:HO}:upd H a o a=some o:=by unfold upd;rw [JB rfl]
theorem ai {H:Hp} {a b:Addr} {o:HO} (h:b≠a):upd H a o b=H b:=by unfold upd;rw [Jz h]
theorem aA {H:Hp} {a b:Addr} {o:HO} (h:H a=some o) (h':H b=none):a≠b:=by
 intro e;subst e;rw [h] at h';cases h'
section
variable (P:Program) (w:World)
def aQ (H:Hp) (h:Heap) (a:Addr):HO->Prop
 | .lst xs=>xs.length<=sizeLine/\∃ (its:List Value) (n:Nat),Vals xs its/\h.get? a=some { cls:=.type "list", data:=.seq its.toArray n }
 | .tup xs=>xs.length<=sizeLine/\∃ its:List Value,Vals xs its/\IsTup h a its.toArray
 | .dK kvs=>kvs.length<=sizeLine/\(a==sysModules)=false/\∃ vs,KV kvs vs/\h.DictOf (aY P w) a vs
 | .dT kvs=>kvs.length<=sizeLine/\(a==sysModules)=false/\∃ xs:List (List Key×Addr×Value),
   Paired (fun (p:List Key×V) (q:List Key×Addr×Value)=>p.1=q.1/\H q.2.1=some (.tup (p.1.map kV))/\RelV p.2 q.2.2) kvs xs /\
   ∃ o es ep,h.get? a=some o/\o.ExactDict/\o.data=.dict es ep/\es.toList=xs.map (entryOfKey (tupleKind (aY P w)))/\(xs.map (·.1)).Nodup
 | .dD ep xs=>xs.length<=sizeLine/\(a==sysModules)=false/\(xs.map (·.1)).Nodup/\∃ o es,h.get? a=some o/\o.ExactDict/\o.data=.dict es ep/\Paired (zm w) xs es.toList
 | .set S n=>h.SetOf (intKind P w) a S n
 | .ins C dx fs=>H dx=some (.own a)/\fs.length<=1000/\dx≠a/\h.get? a=some (PySem.W.instObj C dx) /\
   ∃ mA,h.Ns1 dx mA/\(∀ f,Gk (fs.lookup f) (mA f))/\PySem.Within mA (fs.map (·.1))
 | .own _=>∃ o,h.get? a=some o
 | .xd fs=>∃ mA,h.Ns1 a mA/\∀ f,Gk (fs.lookup f) (mA f)
 | .rng lo hi=>∃ t u v,h.get? a=some { cls:=.type "range", data:=.fields #[.int lo t,.int hi u,.int 1 v] }
 | .frz o u=>h.get? a=some o/\aQ H h a u
 | .tbl ps=>h.get? a=some { cls:=.none,data:=.fields ps }
 | .met f x=>h.get? a=some (PySem.W.methodObj (.ref f) (.ref x))
 | .ext φ=>φ h/\(∃ o,h.get? a=some o)/\∀ h1 h2:Heap,φ h1->(∀ o,h1.get? a=some o->h2.get? a=some o)->φ h2
def HOk (H:Hp) (h:Heap):Prop:=∀ a o,H a=some o->aQ P w H h a o
end
section
variable {P:Program} {w:World} {H H':Hp} {h h':Heap} {a:Addr} {o:HO}
theorem aQ.lt (x:aQ P w H h a o):a < h.objs.size:=by
 cases o with
 | lst xs=>obtain ⟨_,_,_,_,e⟩:=x;exact JX e
 | tup xs=>obtain ⟨_,_,_,p⟩:=x;exact p.lt
 | dK kvs=>obtain ⟨_,_,_,_,o,_,_,e,_⟩:=x;exact JX e
 | dT kvs=>obtain ⟨_,_,_,_,o,_,_,e,_⟩:=x;exact JX e
 | dD ep xs=>obtain ⟨_,_,_,o,_,e,_⟩:=x;exact JX e
 | set S n=>obtain ⟨o,_,_,_,e,_⟩:=x;exact JX e
 | ins C dx fs=>obtain ⟨_,_,_,e,_⟩:=x;exact JX e
 | own y=>obtain ⟨_,e⟩:=x;exact JX e
 | xd fs=>obtain ⟨_,⟨_,_,_,e,_⟩,_⟩:=x;exact JX e
 | rng lo hi=>obtain ⟨_,_,_,e⟩:=x;exact JX e
 | frz ob u=>obtain ⟨e,_⟩:=x;exact JX e
 | tbl ps=>exact JX (show h.get? a=some _ from x)
 | met f y=>exact JX (show h.get? a=some _ from x)
 | ext φ=>obtain ⟨_,⟨_,e⟩,_⟩:=x;exact JX e
theorem Paired.HA {α β:Type} {F G:α->β->Prop}:∀ {l₁:List α} {l₂:List β},Paired F l₁ l₂->(∀ a b,F a b->G a b)->Paired G l₁ l₂
 | _,_,.nil,_=>.nil
 | _,_,.cons r t,f=>.cons (f _ _ r) (Paired.HA t f)
theorem aQ.j9 (x:aQ P w H h a o) (k:∀ b u,(b=a\/H b=some (.own a))->h.get? b=some u->h'.get? b=some u)
  (ho:∀ b,H b=some (.own a)->H' b=some (.own a)) (ht:∀ b xs,H b=some (.tup xs)->H' b=some (.tup xs)):aQ P w H' h' a o:=by
 induction o with
 | lst xs=>obtain ⟨z,its,n,r,e⟩:=x;exact ⟨z,its,n,r,k _ _ (.inl rfl) e⟩
 | tup xs=>obtain ⟨z,its,r,ob,e,c⟩:=x;exact ⟨z,its,r,ob,k _ _ (.inl rfl) e,c⟩
 | dK kvs=>obtain ⟨z,y,vs,r,ob,es,ep,e,c⟩:=x;exact ⟨z,y,vs,r,ob,es,ep,k _ _ (.inl rfl) e,c⟩
 | dT kvs =>
  obtain ⟨z,y,xs,r,ob,es,ep,e,c⟩:=x;exact ⟨z,y,xs,Paired.HA r fun p q z=>⟨z.1,ht _ _ z.2.1,z.2.2⟩,ob,es,ep,k _ _ (.inl rfl) e,c⟩
 | dD ep xs=>obtain ⟨z,y,nd,ob,es,e,c⟩:=x;exact ⟨z,y,nd,ob,es,k _ _ (.inl rfl) e,c⟩
 | set S n=>obtain ⟨ob,es,ep,t,e,c⟩:=x;exact ⟨ob,es,ep,t,k _ _ (.inl rfl) e,c⟩
 | ins C dx fs =>
  obtain ⟨d,z,ne,e,mA,⟨od,es,ep,e2,c⟩,r⟩:=x;exact ⟨ho _ d,z,ne,k _ _ (.inl rfl) e,mA,⟨od,es,ep,k _ _ (.inr d) e2,c⟩,r⟩
 | own y=>obtain ⟨ob,e⟩:=x;exact ⟨ob,k _ _ (.inl rfl) e⟩
 | xd fs=>obtain ⟨mA,⟨od,es,ep,e,c⟩,r⟩:=x;exact ⟨mA,⟨od,es,ep,k _ _ (.inl rfl) e,c⟩,r⟩
 | rng lo hi=>obtain ⟨t,u,v,e⟩:=x;exact ⟨t,u,v,k _ _ (.inl rfl) e⟩
 | frz ob u ih=>obtain ⟨e,q⟩:=x;exact ⟨k _ _ (.inl rfl) e,ih q⟩
 | tbl ps =>
  have e:h.get? a=some { cls:=.none,data:=.fields ps }:=x;show h'.get? a=some { cls:=.none,data:=.fields ps };exact k a _ (.inl rfl) e
 | met f y =>
  have e:h.get? a=some (PySem.W.methodObj (.ref f) (.ref y)):=x;show h'.get? a=some (PySem.W.methodObj (.ref f) (.ref y));exact k a _ (.inl rfl) e
 | ext φ=>obtain ⟨p,⟨o,e⟩,st⟩:=x;exact ⟨st _ _ p fun o q=>k _ _ (.inl rfl) q,⟨o,k _ _ (.inl rfl) e⟩,st⟩
theorem HOk.lt (x:HOk P w H h) (e:H a=some o):a < h.objs.size:=(x a o e).lt
theorem HOk.fresh (x:HOk P w H h) (e:h.objs.size<=a):H a=none:=by
 cases q:H a with
 | none=>rfl
 | some u=>exact absurd (J4 (x.lt q) e) (Kr _)
theorem HOk.kept (x:HOk P w H h) (k:∀ b u,h.get? b=some u->h'.get? b=some u):HOk P w H h':=fun a o e =>
 (x a o e).j9 (fun b u _ q=>k b u q) (fun _ q=>q) fun _ _ q=>q
theorem HOk.laid (x:HOk P w H h) (k:∀ b u,h.get? b=some u->h'.get? b=some u) (hp:h.objs.size<=a) (new:aQ P w (upd H a o) h' a o):HOk P w (upd H a o) h':=fun b u e=>by
 have hn:=x.fresh hp;by_cases hb:b=a
 ·subst hb;rw [af] at e;cases e;exact new
 ·rw [ai hb] at e;exact (x b u e).j9 (fun c v _ q=>k c v q) (fun c q=>by rw [ai (aA q hn)];exact q) fun c xs q=>by rw [ai (aA q hn)];exact q
end
def Rd (H:Hp) (a:Addr) (u:HO):Prop:=H a=some u\/∃ o,H a=some (.frz o u)
theorem Rd.ok {P:Program} {w:World} {H:Hp} {h:Heap} {a:Addr} {u:HO} (r:Rd H a u) (x:HOk P w H h):aQ P w H h a u:=by
 rcases r with r | ⟨o,r⟩
 ·exact x a u r
 ·obtain ⟨_,q⟩:=x a _ r;exact q
def Mut:Option HO->Prop
 | some (.lst _)=>True
 | some (.dK _)=>True
 | some (.dT _)=>True
 | some (.dD _ _)=>True
 | some (.set _ _)=>True
 | some (.ins _ _ _)=>True
 | some (.ext _)=>True
 | _=>False
section
variable {P:Program} {w:World} {H:Hp} {h h':Heap} {x e:Addr} {o':HO}
theorem HOk.write (ok:HOk P w H h) (mu:Mut (H x)) (he:e=x\/H e=some (.own x)) (k:∀ b u,b≠e->h.get? b=some u->h'.get? b=some u) (heo:∃ u,h'.get? e=some u)
  (new:aQ P w (upd H x o') h' x o'):HOk P w (upd H x o') h':=fun b u q=>by
 have nown:∀ c y,H c=some (.own y)->c≠x:=fun c y r z=>by subst z;rw [r] at mu;exact mu
 have ntup:∀ c xs,H c=some (.tup xs)->c≠x:=fun c xs r z=>by subst z;rw [r] at mu;exact mu
 by_cases hb:b=x
 ·subst hb;rw [af] at q;cases q;exact new
 ·rw [ai hb] at q;by_cases hbe:b=e
  ·have q':H b=some (.own x):=by
    rcases he with z | z
    ·exact absurd (hbe.trans z) hb
    ·rw [hbe];exact z
   rw [q] at q';cases q';obtain ⟨v,hv⟩:=heo;exact ⟨v,by rw [hbe];exact hv⟩
  ·refine (ok b u q).j9 (fun c v hc r=>k c v ?_ r) (fun c r=>by rw [ai (nown c b r)];exact r) fun c xs r=>by rw [ai (ntup c xs r)];exact r
   rcases hc with rfl | hc
   ·exact hbe
   ·rintro rfl;rcases he with z | z
    ·exact nown c b hc z
    ·rw [hc] at z;cases z;exact hb rfl
end
structure Un (fs ex:List Addr) (H H':Hp) (h h':Heap):Prop where
 keep:∀ b o,h.get? b=some o->H b=none->b ∉ fs->b ∉ ex->h'.get? b=some o
 slot:∀ b o,h.get? b=some o->H b=none->b∈fs->b ∉ ex->∃ sl,h'.get? b=some { o with slots:=sl }
 free:∀ b o,h.get? b=some o->H b=none->b ∉ ex->H' b=none
 there:∀ b o,h.get? b=some o->b ∉ ex->∃ o',h'.get? b=some o'
 oH:∀ b xs,H b=some (.tup xs)->H' b=some (.tup xs)
 oh:∀ b o u,H b=some (.frz o u)->H' b=some (.frz o u)
 pR:∀ b ps,H b=some (.tbl ps)->∃ more,H' b=some (.tbl (ps++more))
section
variable {fs fs' ex ex':List Addr} {H H1 H2:Hp} {h h1 h2 h':Heap} {a x e:Addr} {o:HO}
theorem Un.any (u:Un fs ex H H1 h h1) {b:Addr} {ob:Obj} (q:h.get? b=some ob) (n:H b=none) (hx:b ∉ ex):∃ sl,h1.get? b=some { ob with slots:=sl }:=by
 by_cases hb:b∈fs
 ·exact u.slot b ob q n hb hx
 ·exact ⟨ob.slots,u.keep b ob q n hb hx⟩
theorem Un.kept (k:∀ b u,h.get? b=some u->h'.get? b=some u):Un fs ex H H h h' :=
 ⟨fun b ob q _ _ _=>k b ob q,fun b ob q _ _ _=>⟨ob.slots,k b ob q⟩,fun _ _ _ n _=>n,fun b ob q _=>⟨ob,k b ob q⟩,fun _ _ q=>q,fun _ _ _ q=>q,fun _ ps q=>⟨#[],by rw [q];simp⟩⟩
theorem Un.refl:Un fs ex H H h h:=Un.kept fun _ _ q=>q
theorem Un.laid (k:∀ b u,h.get? b=some u->h'.get? b=some u) (hp:h.objs.size<=a) (hn:H a=none):Un fs ex H (upd H a o) h h' where
 keep:=fun b u q _ _ _=>k b u q
 slot:=fun b u q _ _ _=>⟨u.slots,k b u q⟩
 free:=fun b u q n _=>by rw [ai (Kk (J4 (JX q) hp))];exact n
 there:=fun b u q _=>⟨u,k b u q⟩
 oH:=fun b xs q=>by rw [ai (aA q hn)];exact q
 oh:=fun b u xs q=>by rw [ai (aA q hn)];exact q
 pR:=fun b ps q=>⟨#[],by rw [ai (aA q hn),q];simp⟩
theorem Un.write (mu:Mut (H x)) (he:e=x\/H e=some (.own x)) (k:∀ b u,b≠e->h.get? b=some u->h'.get? b=some u) (heo:∃ u,h'.get? e=some u):Un fs ex H (upd H x o) h h':=by
 have hx:∀ b,H b=none->b≠x:=fun b n z=>by subst z;rw [n] at mu;exact mu
 have hb:∀ b,H b=none->b≠e:=fun b n z=>by
  subst z;rcases he with r | r
  ·exact hx b n r
  ·rw [n] at r;cases r
 have hm:∀ b u,H b=some u->¬Mut (some u)->b≠x:=fun b u q nm z=>by subst z;rw [q] at mu;exact nm mu
 refine ⟨fun b u q n _ _=>k b u (hb b n) q,fun b u q n _ _=>⟨u.slots,k b u (hb b n) q⟩,fun b u q n _=>by rw [ai (hx b n)];exact n,fun b u q _=>?_,
  fun b xs q=>by rw [ai (hm b _ q fun z=>z)];exact q,fun b u xs q=>by rw [ai (hm b _ q fun z=>z)];exact q,fun b ps q=>⟨#[],by rw [ai (hm b _ q fun z=>z),q];simp⟩⟩
 by_cases hbe:b=e
 ·subst hbe;exact heo
 ·exact ⟨u,k b u hbe q⟩
end
noncomputable def trk (h:Heap) (H:Hp):List Addr:=(List.range h.objs.size).filter fun a=>(H a).isSome
noncomputable def uC (h:Heap) (H:Hp):Heap:=PySem.W.hideAll h (trk h H)
theorem tF (h:Heap) (H:Hp):(uC h H).objs.size=h.objs.size:=PySem.W.hideAll_size _ _
theorem uX {h:Heap} {H:Hp} {b:Addr} {o:Obj} (e:h.get? b=some o) (n:H b=none):(uC h H).get? b=some o :=
 PySem.W.hideAll_get _ e fun hm=>by
  have q:(H b).isSome=true:=(Md.mp hm).2;rw [n] at q;simp at q
theorem zv {h:Heap} {H:Hp} {b:Addr} {o:Obj} (e:(uC h H).get? b=some o):h.get? b=some o/\H b=none:=by
 have e':h.get? b=some o:=PySem.W.of_hideAll (trk h H) e;refine ⟨e',?_⟩;cases q:H b with
 | none=>rfl
 | some x =>
  have hm:b∈trk h H:=Md.mpr ⟨List.mem_range.mpr (JX e'),by simp [q]⟩;have z:(uC h H).get? b=none:=PySem.W.hideAll_none (trk h H) hm;rw [z] at e;cases e
noncomputable def xE (g h:Heap) (L:Addr):List (Addr×Obj):=(List.range h.objs.size).filterMap fun a=>if a=L\/(g.get? a).isSome=true then none else (h.get? a).map fun o=>(a,o)
noncomputable def rest (g h:Heap) (L d:Addr):List (Addr×Obj):=(xE g h L).filter fun p=>decide (p.1≠d)
end L2
namespace L2
open PySem PySem.Spec PyProof.Rows
structure Mod (K:Fg) (mg:Str->Option Value) (base:Heap):Prop where
 kin:K.In base
 glob:base.Ns mainGlobals mg
 blt:∃ mb,base.Ns builtinsNs mb/\∀ x:Str,x ≠ "__name__" -> mb x=bootBuiltins x
 nolimit:base.NoLimit
structure Cx where
 prog:Program
 w:World
 K:Fg
 mg:Str->Option Value
 base:Heap
 A:Around
 N:List Str
 s₀:Shared
 H₀:Hp
 env:Env
 outer:List Env
 stack:List Env
 ex:List Addr
 fn:Str->Bool
 calm:Bool
 pn:List (Addr×Obj)
 xe:Value->Shared->Prop
noncomputable def frs (l:List Env):List Addr:=l.filterMap (·.frame)
noncomputable abbrev Cx.fs (X:Cx):List Addr:=frs X.outer
def Vis (sc:Scope) (x:Str):Prop:=sc.names.lookup x=some .local\/sc.names.lookup x=some .cell\/sc.names.lookup x=some .free
def Loc (sc:Scope) (x:Str):Prop:=sc.names.lookup x=some .local\/sc.names.lookup x=some .cell
def Look (env:Env) (h:Heap) (m:Str->Option Value) (x:Str) (u:Value):Prop :=
 (env.kindOf x=some .local/\m x=some u)\/((env.kindOf x=some .cell\/env.kindOf x=some .free)/\∃ c,env.cells.lookup x=some c/\h.IsCell c (some u))
structure Cx.Ok (X:Cx):Prop where
 mod:Mod X.K X.mg X.base
 kind:X.env.scope.kind=.function
 glob:X.env.globals=mainGlobals
 blt:X.env.builtins=builtinsNs
 above:X.s₀.heap.objs.size<=X.env.locals
 inj:∀ x y c,X.env.cells.lookup x=some c->X.env.cells.lookup y=some c->x=y
 has:∀ x,(X.env.kindOf x=some .cell\/X.env.kindOf x=some .free)->∃ c,X.env.cells.lookup x=some c
 cab:∀ x c,X.fn x=true->X.env.cells.lookup x=some c->X.s₀.heap.objs.size<=c
 hd:X.calm=true->X.A.handled=none
 frames:X.A.frames=some X.stack
 stk:X.stack=X.outer\/(X.stack=X.env :: X.outer/\X.env.frame=some X.env.locals)
 exf:∀ b∈X.ex,b≠X.env.locals/\∀ x c,X.env.cells.lookup x=some c->c≠b
 bs:∀ b o,X.base.get? b=some o->X.s₀.heap.get? b=some o/\X.H₀ b=none
 bsz:X.base.objs.size<=X.s₀.heap.objs.size
 wQ:∀ b o,X.base.get? b=some o->b ∉ X.ex
 zh:∀ b∈X.ex,b ∉ X.fs
 l8:X.s₀.heap.FunFrames X.base X.outer
 frf:∀ b∈X.fs,X.H₀ b=none
structure Inv (X:Cx) (pins:List (Addr×Obj)) (σ:List (Option V)) (H:Hp) (s:Shared):Prop where
 ok:X.Ok
 os:s.os=X.s₀.os
 bare:AllBare s.gens
 base:Un X.fs X.ex X.H₀ H X.s₀.heap s.heap
 loc:∃ m,s.heap.Ns X.env.locals m/\∀ (i:Nat) (x:Str) (v:V),X.N[i]?=some x->σ[i]?=some (some v)->Vis X.env.scope x->∃ u,RelV v u/\Look X.env s.heap m x u
 cell:∀ x c,X.env.cells.lookup x=some c->∃ v,s.heap.IsCell c v
 free:H X.env.locals=none
 dU:∀ x c,X.env.cells.lookup x=some c->H c=none
 pin:∀ p∈X.pn++pins,s.heap.get? p.1=some p.2/\H p.1=none/\p.1≠X.env.locals/\p.1 ∉ X.fs/\∀ v,p.2.data≠.cell v
 hok:HOk X.prog X.w H s.heap
 len:σ.length=X.N.length
section
variable {X:Cx} {pins:List (Addr×Obj)} {σ:List (Option V)} {H H':Hp} {s:Shared} {h':Heap}
theorem Cx.Ok.Ir (ok:X.Ok) {b:Addr} {o:Obj} (e:X.base.get? b=some o):b ∉ X.fs:=fun hb=>by
 have:=(ok.l8.mem hb).1;rw [e] at this;cases this
theorem Inv.bs (I:Inv X pins σ H s):∀ b o,X.base.get? b=some o->s.heap.get? b=some o/\H b=none:=fun b o e =>
 ⟨I.base.keep b o (I.ok.bs b o e).1 (I.ok.bs b o e).2 (I.ok.Ir e) (I.ok.wQ b o e),I.base.free b o (I.ok.bs b o e).1 (I.ok.bs b o e).2 (I.ok.wQ b o e)⟩
theorem Inv.bk (I:Inv X pins σ H s):∀ b o,X.base.get? b=some o->s.heap.get? b=some o:=fun b o e=>(I.bs b o e).1
theorem Inv.mod (I:Inv X pins σ H s):Mod X.K X.mg X.base:=I.ok.mod
theorem Inv.kIn (I:Inv X pins σ H s):X.K.In s.heap:=I.ok.mod.kin.keeps I.bk
theorem Inv.lt (I:Inv X pins σ H s):X.env.locals < s.heap.objs.size:=let ⟨_,hn,_⟩:=I.loc;hn.lt
theorem Inv.sz (I:Inv X pins σ H s):X.s₀.heap.objs.size<=s.heap.objs.size:=Ka I.ok.above (Ma I.lt)
theorem Inv.C1 (I:Inv X pins σ H s) {a:Addr} (h:s.heap.objs.size<=a):a ∉ X.fs:=fun hb=>by
 obtain ⟨_,o,ho,_⟩:=I.ok.l8.mem hb;exact absurd (J4 (JX ho) (Ka I.sz h)) (Kr _)
theorem Inv.cne (I:Inv X pins σ H s):∀ x c,X.env.cells.lookup x=some c->c≠X.env.locals:=fun x c e z=>by
 obtain ⟨v,o,ho,hd⟩:=I.cell x c e;obtain ⟨m,⟨o',es,ep,ho',hd',_⟩,_⟩:=I.loc;rw [z,ho'] at ho;cases ho;rw [hd'] at hd;cases hd
theorem Inv.l8 (I:Inv X pins σ H s):s.heap.FunFrames X.base X.outer:=by
 have all:∀ (l:List Env),(∀ b∈frs l,b∈X.fs)->X.s₀.heap.FunFrames X.base l->s.heap.FunFrames X.base l:=by
  intro l;induction l with
  | nil=>intro _ _;trivial
  | cons env r ih =>
   intro hs hl;obtain ⟨hk,⟨L,o,hf,hn,ho,hd⟩,hr⟩:=hl;have hL:L∈X.fs:=hs L (by unfold frs;rw [Lc,hf];exact Jy);obtain ⟨sl,e⟩:=I.base.slot L o ho (I.ok.frf L hL) hL fun z=>I.ok.zh L z hL;exact ⟨hk,⟨L,_,hf,hn,e,hd⟩,ih (fun b hb=>hs b (by unfold frs;rw [Lc,hf];exact JJ _ hb)) hr⟩
 exact all X.outer (fun _ hb=>hb) I.ok.l8
theorem Inv.stack (I:Inv X pins σ H s):s.heap.FunFrames X.base X.stack:=by
 rcases I.ok.stk with e | ⟨e,hf⟩
 ·rw [e];exact I.l8
 ·rw [e];obtain ⟨m,hn,_⟩:=I.loc;refine .cons (by rw [I.ok.kind];decide) hf hn ?_ I.l8;exact Heap.get?_none_of_le (Ka I.ok.bsz I.ok.above)
theorem Inv.kM (I:Inv X pins σ H s):∀ b∈frs X.stack,b∈X.env.locals :: X.fs:=fun b hb=>by
 rcases I.ok.stk with e | ⟨e,hf⟩
 ·rw [e] at hb;exact JJ _ hb
 ·rw [e] at hb;unfold frs at hb;rw [Lc,hf] at hb;exact hb
theorem Inv.jy (I:Inv X pins σ H s):∀ b∈frs X.stack,H b=none:=fun b hb=>by
 rcases JV.mp (I.kM b hb) with e | hb
 ·rw [e];exact I.free
 ·obtain ⟨_,o,ho,_⟩:=I.ok.l8.mem hb;exact I.base.free b o ho (I.ok.frf b hb) fun z=>I.ok.zh b z hb
theorem Inv.step {g':Array GenState} {t':Nat} {d':Drawn} {ch:List Addr} (I:Inv X pins σ H s)
  (hch:∀ b∈ch,(b∈X.ex\/X.s₀.heap.objs.size<=b)/\b≠X.env.locals/\(∀ x c,X.env.cells.lookup x=some c->c≠b)/\∀ p∈X.pn++pins,p.1≠b)
  (keep:∀ b o,b≠X.env.locals->b ∉ X.fs->b ∉ ch->s.heap.get? b=some o->H b=none->h'.get? b=some o)
  (slot:∀ b o,b≠X.env.locals->b∈X.fs->b ∉ ch->s.heap.get? b=some o->H b=none->∃ sl,h'.get? b=some { o with slots:=sl }) (free:∀ b o,b ∉ ch->s.heap.get? b=some o->H b=none->H' b=none)
  (there:∀ b o,b ∉ ch->s.heap.get? b=some o->∃ o',h'.get? b=some o')
  (oH:∀ b xs,H b=some (.tup xs)->H' b=some (.tup xs)) (oh:∀ b o u,H b=some (.frz o u)->H' b=some (.frz o u)) (pR:∀ b ps,H b=some (.tbl ps)->∃ more,H' b=some (.tbl (ps++more)))
  (ns:∀ m,s.heap.Ns X.env.locals m->h'.Ns X.env.locals m) (hok:HOk X.prog X.w H' h') (hg:AllBare g') :
  Inv X pins σ H' { s with heap:=h',gens:=g',drawn:=d',toks:=t' }:=by
 have neL:∀ b o,X.s₀.heap.get? b=some o->b≠X.env.locals:=fun b o e=>Kk (J4 (JX e) I.ok.above);have neC:∀ b o,X.s₀.heap.get? b=some o->b ∉ X.ex->b ∉ ch:=fun b o e hx hb=>by
  rcases (hch b hb).1 with z | z
  ·exact hx z
  ·exact absurd (J4 (JX e) z) (Kr _)
 have cellK:∀ x c,X.env.cells.lookup x=some c->∀ v,s.heap.IsCell c v->h'.IsCell c v:=fun x c e v ⟨o,ho,hd⟩=>by
  have nch:c ∉ ch:=fun z=>(hch c z).2.2.1 x c e rfl;by_cases hc:c∈X.fs
  ·obtain ⟨sl,q⟩:=slot c o (I.cne x c e) hc nch ho (I.dU x c e);exact ⟨_,q,hd⟩
  ·exact ⟨o,keep c o (I.cne x c e) hc nch ho (I.dU x c e),hd⟩
 refine ⟨I.ok,I.os,hg,⟨fun b o e n hb hx=>?_,fun b o e n hb hx=>?_,fun b o e n hx=>?_,fun b o e hx=>?_,fun b xs e=>oH b xs (I.base.oH b xs e),fun b o xs e=>oh b o xs (I.base.oh b o xs e),fun b ps e=>?_⟩,?_,fun x c e=>?_,?_,fun x c e=>?_,fun p hp=>?_,hok,I.len⟩
 ·exact keep b o (neL b o e) hb (neC b o e hx) (I.base.keep b o e n hb hx) (I.base.free b o e n hx)
 ·obtain ⟨sl,e1⟩:=I.base.slot b o e n hb hx;obtain ⟨sl',e2⟩:=slot b _ (neL b o e) hb (neC b o e hx) e1 (I.base.free b o e n hx);exact ⟨sl',e2⟩
 ·obtain ⟨o',e1⟩:=I.base.there b o e hx;exact free b o' (neC b o e hx) e1 (I.base.free b o e n hx)
 ·obtain ⟨o',e1⟩:=I.base.there b o e hx;exact there b o' (neC b o e hx) e1
 ·obtain ⟨m1,e1⟩:=I.base.pR b ps e;obtain ⟨m2,e2⟩:=pR b _ e1;exact ⟨m1++m2,by rw [e2,Array.append_assoc]⟩
 ·obtain ⟨m,hn,hl⟩:=I.loc;refine ⟨m,ns m hn,fun i x v e1 e2 e3=>?_⟩;obtain ⟨u,r,l⟩:=hl i x v e1 e2 e3;refine ⟨u,r,?_⟩;rcases l with l | ⟨k,c,e,z⟩
  ·exact .inl l
  ·exact .inr ⟨k,c,e,cellK x c e _ z⟩
 ·obtain ⟨v,z⟩:=I.cell x c e;exact ⟨v,cellK x c e v z⟩
 ·obtain ⟨m,⟨o,_,_,ho,_⟩,_⟩:=I.loc;exact free _ o (fun z=>(hch _ z).2.1 rfl) ho I.free
 ·obtain ⟨v,o,ho,hd⟩:=I.cell x c e;exact free c o (fun z=>(hch c z).2.2.1 x c e rfl) ho (I.dU x c e)
 ·obtain ⟨e,n,ne,nf,d⟩:=I.pin p hp;have nch:p.1 ∉ ch:=fun z=>(hch p.1 z).2.2.2 p hp rfl;exact ⟨keep p.1 p.2 ne nf nch e n,free p.1 p.2 nch e n,ne,nf,d⟩
theorem Inv.un {t':Nat} (I:Inv X pins σ H s) (u:Un X.fs [] H H' s.heap h') (hok:HOk X.prog X.w H' h'):Inv X pins σ H' { s with heap:=h',toks:=t' }:=by
 obtain ⟨m,⟨o,es,ep,ho,r⟩,_⟩:=id I.loc;obtain ⟨sl,hL⟩:=u.any ho I.free (by simp)
 exact I.step (g':=s.gens) (d':=s.drawn) (ch:=[]) (fun _ z=>nomatch z) (fun b o _ hb _ e n=>u.keep b o e n hb (by simp)) (fun b o _ hb _ e n=>u.slot b o e n hb (by simp)) (fun b o _ e n=>u.free b o e n (by simp)) (fun b o _ e=>u.there b o e (by simp)) u.oH u.oh u.pR (fun m' hm=>by
  obtain ⟨o',es',ep',ho',r'⟩:=hm;rw [ho] at ho';cases ho'
  exact ⟨_,es',ep',hL,r'⟩) hok I.bare
theorem Inv.call {g':Array GenState} {t':Nat} {d':Drawn} {ch:List Addr} (I:Inv X pins σ H s) (u:Un (frs X.stack) ch H H' s.heap h') (hok:HOk X.prog X.w H' h') (hg:AllBare g')
  (hch:∀ b∈ch,(b∈X.ex\/X.s₀.heap.objs.size<=b)/\b≠X.env.locals/\(∀ x c,X.env.cells.lookup x=some c->c≠b)/\∀ p∈X.pn++pins,p.1≠b) :
  Inv X pins σ H' { s with heap:=h',gens:=g',drawn:=d',toks:=t' }:=by
 obtain ⟨m,⟨o,es,ep,ho,r⟩,_⟩:=id I.loc;obtain ⟨sl,hL⟩:=u.any ho I.free fun z=>(hch _ z).2.1 rfl
 exact I.step (ch:=ch) hch (fun b o hL hb hc e n=>u.keep b o e n (fun z=>(JV.mp (I.kM b z)).elim hL hb) hc) (fun b o _ _ hc e n=>u.any e n hc) (fun b o hc e n=>u.free b o e n hc) (fun b o hc e=>u.there b o e hc) u.oH u.oh u.pR (fun m' hm=>by
  obtain ⟨o',es',ep',ho',r'⟩:=hm;rw [ho] at ho';cases ho'
  exact ⟨_,es',ep',hL,r'⟩) hok hg
theorem Inv.turned {t':Nat} {it:Addr} (I:Inv X pins σ H s) (k:∀ b o,b≠it->s.heap.get? b=some o->h'.get? b=some o) (hn:H it=none) (hL:it≠X.env.locals)
  (h1:it∈X.ex\/X.s₀.heap.objs.size<=it) (h2:∀ x c,X.env.cells.lookup x=some c->c≠it) (h3:∀ p∈X.pn++pins,p.1≠it):Inv X pins σ H { s with heap:=h',toks:=t' }:=by
 have nit:∀ b u,H b=some u->b≠it:=fun b u e z=>by rw [z,hn] at e;cases e
 refine I.step (g':=s.gens) (d':=s.drawn) (ch:=[it]) (fun b hb=>?_) (fun b o _ _ hc e _=>k b o (fun z=>hc (by simp [z])) e) (fun b o _ _ hc e _=>⟨o.slots,k b o (fun z=>hc (by simp [z])) e⟩) (fun _ _ _ _ n=>n)
  (fun b o hc e=>⟨o,k b o (fun z=>hc (by simp [z])) e⟩) (fun _ _ e=>e) (fun _ _ _ e=>e) (fun b ps e=>⟨#[],by rw [e];simp⟩) (fun m hm=>?_) (fun b u e=>?_) I.bare
 ·have e:b=it:=by simpa using hb
  subst e;exact ⟨h1,hL,h2,h3⟩
 ·obtain ⟨o,es,ep,ho,r⟩:=hm;exact ⟨o,es,ep,k _ o (Ne.symm hL) ho,r⟩
 ·refine (I.hok b u e).j9 (fun c v hc q=>k c v ?_ q) (fun _ q=>q) fun _ _ q=>q;rcases hc with z | z
  ·rw [z];exact nit b u e
  ·exact nit c _ z
theorem Inv.tok (I:Inv X pins σ H s) (t:Nat):Inv X pins σ H { s with toks:=t }:=I.un (h':=s.heap) (t':=t) Un.refl I.hok
theorem Inv.kept {t':Nat} (I:Inv X pins σ H s) (k:∀ b u,s.heap.get? b=some u->h'.get? b=some u):Inv X pins σ H { s with heap:=h',toks:=t' }:=I.un (Un.kept k) (I.hok.kept k)
theorem Inv.laid {a:Addr} {o:HO} {t':Nat} (I:Inv X pins σ H s) (k:∀ b u,s.heap.get? b=some u->h'.get? b=some u) (hp:s.heap.objs.size<=a) (new:aQ X.prog X.w (upd H a o) h' a o) :
  Inv X pins σ (upd H a o) { s with heap:=h',toks:=t' }:=I.un (Un.laid k hp (I.hok.fresh hp)) (I.hok.laid k hp new)
theorem Inv.write {x e:Addr} {o:HO} {t':Nat} (I:Inv X pins σ H s) (mu:Mut (H x)) (he:e=x\/H e=some (.own x)) (k:∀ b u,b≠e->s.heap.get? b=some u->h'.get? b=some u) (heo:∃ u,h'.get? e=some u)
  (new:aQ X.prog X.w (upd H x o) h' x o):Inv X pins σ (upd H x o) { s with heap:=h',toks:=t' }:=I.un (Un.write mu he k heo) (I.hok.write mu he k heo new)
theorem Inv.cA {pins':List (Addr×Obj)} (I:Inv X pins σ H s) (h:∀ p∈pins',s.heap.get? p.1=some p.2/\H p.1=none/\p.1≠X.env.locals/\p.1 ∉ X.fs/\∀ v,p.2.data≠.cell v):Inv X pins' σ H s :=
 ⟨I.ok,I.os,I.bare,I.base,I.loc,I.cell,I.free,I.dU,fun p hp=>(Kb.mp hp).elim (fun z=>I.pin p (J9 _ z)) (h p),I.hok,I.len⟩
theorem nz {N:List Str} (hN:N.Nodup) {i j:Nat} {x:Str} (a:N[i]?=some x) (b:N[j]?=some x):i=j:=by
 obtain ⟨h1,e1⟩:=Js.mp a;obtain ⟨h2,e2⟩:=Js.mp b;exact (List.getElem_inj hN).mp (e1.trans e2.symm)
theorem sx {M:Model} {A:Around} {E:Value->Shared->Prop} {i:Nat} {x:Str} {v:V} {u:Value} {Q:Unit->Shared->Prop} (I:Inv X pins σ H s) (hN:X.N.Nodup) (hi:X.N[i]?=some x) (hx:Loc X.env.scope x) (r:RelV v u)
  (h:∀ s',Inv X pins (σ.set i (some v)) H s'->(∃ a,Heap.SameBut a s.heap s'.heap/\(a=X.env.locals\/X.env.cells.lookup x=some a))->Q () s') (hf:X.fn x=true\/X.env.scope.names.lookup x=some .local:=by first | exact .inl rfl | exact .inr rfl | assumption):wpAny M A (storeName X.env x u) Q E s:=by
 obtain ⟨m,hn,hl⟩:=id I.loc;have hcls:(X.env.scope.kind==.class||(X.env.scope.kind==.module&&X.env.locals != X.env.globals))=false:=by rw [I.ok.kind];rfl
 have hiσ:i < σ.length:=by rw [I.len];exact (Js.mp hi).1
 have cne:=I.cne;have tracked:∀ {a:Addr} {h':Heap},(∃ o,s.heap.get? a=some o/\H a=none)->Heap.SameBut a s.heap h'->HOk X.prog X.w H h':=fun {a h'} ha hs b ob e=>by
  obtain ⟨_,_,hfree⟩:=ha;refine (I.hok b ob e).j9 (fun c w' hc q=>(hs.2 c ?_).trans q) (fun _ q=>q) fun _ _ q=>q;rintro rfl;rcases hc with rfl | hc
  ·rw [hfree] at e;cases e
  ·rw [hfree] at hc;cases hc
 rcases hx with hk | hk
 ·refine wpAny_storeName_local hk hn (fun h' hn' hs=>?_) hcls;obtain ⟨oL,_,_,hoL,_⟩:=id hn;refine h _ ⟨I.ok,I.os,I.bare,⟨fun b o e n hb hx=>?_,fun b o e n hb hx=>?_,I.base.free,fun b o e hx=>?_,I.base.oH,I.base.oh,I.base.pR⟩,⟨_,hn',fun j y v' e1 e2 e3=>?_⟩,fun y c e=>?_,I.free,I.dU,fun p hp=>?_,tracked ⟨oL,hoL,I.free⟩ hs,by simpa using I.len⟩ ⟨_,hs,.inl rfl⟩
  ·exact (hs.2 b (Kk (J4 (JX e) I.ok.above))).trans (I.base.keep b o e n hb hx)
  ·obtain ⟨sl,e1⟩:=I.base.slot b o e n hb hx;exact ⟨sl,(hs.2 b (Kk (J4 (JX e) I.ok.above))).trans e1⟩
  ·obtain ⟨o',e1⟩:=I.base.there b o e hx;exact ⟨o',(hs.2 b (Kk (J4 (JX e) I.ok.above))).trans e1⟩
  ·by_cases hj:j=i
   ·subst hj;rw [hi] at e1;cases e1;rw [JK hiσ] at e2;cases e2;exact ⟨u,r,.inl ⟨hk,by simp⟩⟩
   ·rw [Ju (Ne.symm hj)] at e2;obtain ⟨u',r',q⟩:=hl j y v' e1 e2 e3;refine ⟨u',r',?_⟩;rcases q with ⟨k,e⟩ | ⟨k,c,e,z⟩
    ·refine .inl ⟨k,?_⟩;have:y≠x:=fun e=>hj (nz hN e1 (e▸hi));simp [this,e]
    ·exact .inr ⟨k,c,e,z.sameBut hs (cne y c e)⟩
  ·obtain ⟨w',z⟩:=I.cell y c e;exact ⟨w',z.sameBut hs (cne y c e)⟩
  ·obtain ⟨e,n,ne,nf,d⟩:=I.pin p hp;exact ⟨(hs.2 p.1 ne).trans e,n,ne,nf,d⟩
 ·have hfn:X.fn x=true:=by
   rcases hf with z | z
   ·exact z
   ·rw [z] at hk;cases hk
  obtain ⟨c,hc⟩:=I.ok.has x (.inl hk);obtain ⟨w',z⟩:=I.cell x c hc;refine wpAny_storeName_cell I.ok.kind hk hc z (fun h' hc' hs=>?_);obtain ⟨oc,hoc,hocd⟩:=id z;refine h { s with heap:=h' } ⟨I.ok,I.os,I.bare,⟨fun b o e n hb hx=>?_,fun b o e n hb hx=>?_,I.base.free,fun b o e hx=>?_,I.base.oH,I.base.oh,I.base.pR⟩,⟨m,hn.sameBut hs (Ne.symm (cne x c hc)),fun j y v' e1 e2 e3=>?_⟩,fun y c' e=>?_,I.free,I.dU,fun p hp=>?_,tracked ⟨oc,hoc,I.dU x c hc⟩ hs,by simpa using I.len⟩ ⟨c,hs,.inr hc⟩
  ·exact (hs.2 b (Kk (J4 (JX e) (I.ok.cab x c hfn hc)))).trans (I.base.keep b o e n hb hx)
  ·obtain ⟨sl,e1⟩:=I.base.slot b o e n hb hx;exact ⟨sl,(hs.2 b (Kk (J4 (JX e) (I.ok.cab x c hfn hc)))).trans e1⟩
  ·obtain ⟨o',e1⟩:=I.base.there b o e hx;exact ⟨o',(hs.2 b (Kk (J4 (JX e) (I.ok.cab x c hfn hc)))).trans e1⟩
  ·by_cases hj:j=i
   ·subst hj;rw [hi] at e1;cases e1;rw [JK hiσ] at e2;cases e2;exact ⟨u,r,.inr ⟨.inl hk,c,hc,hc'⟩⟩
   ·rw [Ju (Ne.symm hj)] at e2;obtain ⟨u',r',q⟩:=hl j y v' e1 e2 e3;refine ⟨u',r',?_⟩;rcases q with q | ⟨k,c',e,z'⟩
    ·exact .inl q
    ·refine .inr ⟨k,c',e,z'.sameBut hs ?_⟩;rintro rfl;exact hj (nz hN e1 (I.ok.inj _ _ _ e hc▸hi))
  ·by_cases hcc:c'=c
   ·subst hcc;exact ⟨_,hc'⟩
   ·obtain ⟨w2,z2⟩:=I.cell y c' e;exact ⟨w2,z2.sameBut hs hcc⟩
  ·obtain ⟨e,n,ne,nf,d⟩:=I.pin p hp;refine ⟨(hs.2 p.1 ?_).trans e,n,ne,nf,d⟩;intro q;rw [q,hoc] at e;have q':oc=p.2:=Km e;exact d w' (by rw [<- q'];exact hocd)
theorem gb {M:Model} {A:Around} {E:Value->Shared->Prop} {i:Nat} {x:Str} {v:V} {u:Value} {Q:Unit->Shared->Prop} (I:Inv X pins σ H s) (hN:X.N.Nodup) (hi:X.N[i]?=some x) (hx:Loc X.env.scope x) (r:RelV v u)
  (h:∀ s',Inv X pins (σ.set i (some v)) H s'->Q () s') (hf:X.fn x=true\/X.env.scope.names.lookup x=some .local:=by first | exact .inl rfl | exact .inr rfl | assumption):wpAny M A (storeName X.env x u) Q E s :=
 sx I hN hi hx r (fun s' I' _=>h s' I') hf
theorem Inv.Fv {s':Shared} {ch:List Addr} (I:Inv X pins σ H s) (ho:s'.os=s.os) (u:Un (frs X.stack) ch H H' s.heap s'.heap) (hok:HOk X.prog X.w H' s'.heap) (hg:AllBare s'.gens)
  (hch:∀ b∈ch,(b∈X.ex\/X.s₀.heap.objs.size<=b)/\b≠X.env.locals/\(∀ x c,X.env.cells.lookup x=some c->c≠b)/\∀ p∈X.pn++pins,p.1≠b):Inv X pins σ H' s':=by
 obtain ⟨h',g',d',t',o'⟩:=s';have e:o'=s.os:=ho;subst e;exact I.call (g':=g') (t':=t') (d':=d') u hok hg hch
end
abbrev XK:=Value->Option Addr->Hp->Prop
abbrev St:=List (Option V)
abbrev VK:=V->Hp->Prop
abbrev TE:=St->Hp->VK->Prop
abbrev TT:=St->Hp->(Bool->Hp->Prop)->Prop
abbrev TA:=St->Hp->(List V->Hp->Prop)->Prop
structure Ends where
 nx:St->Hp->Prop
 rt:VK
 bk:St->Hp->Prop:=fun _ _=>False
 ct:St->Hp->Prop:=fun _ _=>False
abbrev TS:=Ends->St->Hp->Prop
def EP (X:Cx) (pins:List (Addr×Obj)) (σ:St) (Q:VK) (u:Value) (s':Shared):Prop:=∃ v H',Inv X pins σ H' s'/\RelV v u/\Q v H'
def TP (X:Cx) (pins:List (Addr×Obj)) (σ:St) (Q:Bool->Hp->Prop) (b:Bool) (s':Shared):Prop:=∃ H',Inv X pins σ H' s'/\Q b H'
def AP (X:Cx) (pins:List (Addr×Obj)) (σ:St) (Q:List V->Hp->Prop) (us:List Value) (s':Shared):Prop:=∃ vs H',Inv X pins σ H' s'/\Vals vs us/\Q vs H'
def SP (X:Cx) (pins:List (Addr×Obj)) (D:Ends) (f:Flow) (s':Shared):Prop :=
 match f with
 | .next=>∃ σ' H',Inv X pins σ' H' s'/\D.nx σ' H'
 | .brk=>∃ σ' H',Inv X pins σ' H' s'/\D.bk σ' H'
 | .cont=>∃ σ' H',Inv X pins σ' H' s'/\D.ct σ' H'
 | .ret u=>∃ v σ' H',Inv X pins σ' H' s'/\RelV v u/\D.rt v H'
def PE (X:Cx) (e:Expr) (t:TE):Prop :=
 ∀ (pins:List (Addr×Obj)) (s:Shared) (σ:St) (H:Hp) (Q:VK),Inv X pins σ H s->t σ H Q->wpAny (model X.prog X.w) X.A (eval e X.env) (EP X pins σ Q) X.xe s
def PT (X:Cx) (e:Expr) (t:TT):Prop :=
 ∀ (pins:List (Addr×Obj)) (s:Shared) (σ:St) (H:Hp) (Q:Bool->Hp->Prop),Inv X pins σ H s->t σ H Q->wpAny (model X.prog X.w) X.A (isTrue e X.env (eval e X.env)) (TP X pins σ Q) X.xe s
def PW (X:Cx) (e:Expr) (t:TT):Prop :=
 ∀ (whole:Sem Value) (pins:List (Addr×Obj)) (s:Shared) (σ:St) (H:Hp) (Q:Bool->Hp->Prop),Inv X pins σ H s->t σ H Q->wpAny (model X.prog X.w) X.A (isTrue e X.env whole) (TP X pins σ Q) X.xe s
theorem PW.pt {X:Cx} {e:Expr} {t:TT} (h:PW X e t):PT X e t:=h _
def PA (X:Cx) (es:List Expr) (t:TA):Prop :=
 ∀ (pos:Pos) (pins:List (Addr×Obj)) (s:Shared) (σ:St) (H:Hp) (Q:List V->Hp->Prop),Inv X pins σ H s->t σ H Q->wpAny (model X.prog X.w) X.A (spliced (backTo pos (starEach es X.env))) (AP X pins σ Q) X.xe s
def PS (X:Cx) (st:Stmt) (t:TS):Prop :=
 ∀ (pins:List (Addr×Obj)) (s:Shared) (σ:St) (H:Hp) (D:Ends),Inv X pins σ H s->t D σ H->wpAny (model X.prog X.w) X.A (exec st X.env) (SP X pins D) X.xe s
def PSs (X:Cx) (st:List Stmt) (t:TS):Prop :=
 ∀ (pins:List (Addr×Obj)) (s:Shared) (σ:St) (H:Hp) (D:Ends),Inv X pins σ H s->t D σ H->wpAny (model X.prog X.w) X.A (execs st X.env) (SP X pins D) X.xe s
theorem thn {α:Type} {t:Sem α} {Q Q':α->Shared->Prop} {M:Model} {A:Around} {E:Value->Shared->Prop} {s:Shared} (h:wpAny M A t Q E s) (hQ:∀ a s,Q a s->Q' a s):wpAny M A t Q' E s:=Ke h hQ fun _ _ x=>x
end L2
namespace L2
open PySem PySem.Spec PyProof.Rows
section
variable {X:Cx}
theorem bin {a b:Expr} {ta tb:TE} (ha:PE X a ta) (hb:PE X b tb) {pins:List (Addr×Obj)} {s:Shared} {σ:St} {H:Hp} {R:V->V->Hp->Prop} (I:Inv X pins σ H s) (h:ta σ H fun x H1=>tb σ H1 fun y H2=>R x y H2)
  {α:Type} {Q:α->Shared->Prop} {f:Value->Value->Sem α}
  (hf:∀ v u s2 x y H2,Inv X pins σ H2 s2->RelV x v->RelV y u->R x y H2->wpAny (model X.prog X.w) X.A (f v u) Q X.xe s2) :
  wpAny (model X.prog X.w) X.A (eval a X.env) (fun v s₁=>wpAny (model X.prog X.w) X.A (eval b X.env) (fun u s₂=>wpAny (model X.prog X.w) X.A (f v u) Q X.xe s₂) X.xe s₁) X.xe s:=by
 refine thn (ha pins s σ H _ I h) fun v s1 ⟨x,H1,I1,r1,q1⟩=>?_;refine thn (hb pins s1 σ H1 _ I1 q1) fun u s2 ⟨y,H2,I2,r2,q2⟩=>?_;exact hf v u s2 x y H2 I2 r1 r2 q2
def kX (i:Nat):TE:=fun σ H Q=>∃ v,σ[i]?=some (some v)/\Q v H
def tC (v:V):TE:=fun _ H Q=>Q v H
theorem wY {i:Nat} {x:Str} {pos:Pos} (hN:X.N[i]?=some x) (hv:Vis X.env.scope x) (hd:(x==("__debug__" : Str))=false:=by decide) (hcd:(x==("__classdict__" : Str))=false:=by decide):PE X (.Name x pos) (kX i):=by
 intro pins s σ H Q I h;obtain ⟨v,e,h⟩:=h;obtain ⟨m,hn,hl⟩:=I.loc;obtain ⟨u,r,l⟩:=hl i x v hN e hv;have fin:EP X pins σ Q u s:=⟨v,H,I,r,h⟩;rcases l with ⟨hk,hm⟩ | ⟨hk,c,hc,hcell⟩
 ·exact wpAny_Name (wpAny_loadName_local I.ok.kind hk hn hm fin) hd
 ·rcases hk with hk | hk
  ·exact wpAny_Name (wpAny_loadName_cell I.ok.kind hk hc hcell fin) hd
  ·exact wpAny_Name (wpAny_loadName_free I.ok.kind hk hc hcell fin hcd) hd
theorem BW {i j pos}:PE X (.Constant (.int i) j pos) (tC (.int i)):=fun _ _ _ H _ I h=>wpAny_Constant_int ⟨.int i,H,I.tok _,⟨_,rfl⟩,h⟩
theorem GB {b j pos}:PE X (.Constant (.bool b) j pos) (tC (.bl b)):=fun _ _ _ H _ I h=>Constant_bool ⟨.bl b,H,I,rfl,h⟩
theorem Cw {j pos}:PE X (.Constant .none j pos) (tC .non):=fun _ _ _ H _ I h=>Constant_none ⟨.non,H,I,rfl,h⟩
theorem Dz {x j pos}:PE X (.Constant (.str x) j pos) (tC (.str x)):=fun _ _ _ H _ I h=>Calls.Constant_str ⟨.str x,H,I.tok _,⟨_,rfl⟩,h⟩
def Gl (X:Cx) (x:Str):Prop:=X.env.kindOf x=some .globalImplicit
theorem jQ {E:Value->Shared->Prop} {pins:List (Addr×Obj)} {s:Shared} {σ:St} {H:Hp} {x:Str} {u:Value} {pos:Pos} {Q:Value->Shared->Prop} (I:Inv X pins σ H s) (hg:Gl X x) (hm:X.mg x=some u) (h:Q u s)
  (hd:(x==("__debug__" : Str))=false:=by decide):wpAny (model X.prog X.w) X.A (eval (.Name x pos) X.env) Q E s :=
 Calls.Name_function_global I.ok.kind hg (Calls.loadGlobal_global (by rw [I.ok.glob];exact I.mod.glob.keeps I.bk) hm h) hd
theorem km {E:Value->Shared->Prop} {pins:List (Addr×Obj)} {s:Shared} {σ:St} {H:Hp} {x:Str} {u:Value} {pos:Pos} {Q:Value->Shared->Prop} (I:Inv X pins σ H s) (hg:Gl X x) (hm:X.mg x=none) (hv:bootBuiltins x=some u) (h:Q u s)
  (hn:x ≠ "__name__" := by decide) (hd:(x==("__debug__" : Str))=false:=by decide):wpAny (model X.prog X.w) X.A (eval (.Name x pos) X.env) Q E s:=by
 obtain ⟨mb,h1,h2⟩:=I.mod.blt;exact Calls.Name_function_global I.ok.kind hg (Calls.loadGlobal_builtin (by rw [I.ok.glob];exact I.mod.glob.keeps I.bk) hm (by rw [I.ok.blt];exact h1.keeps I.bk) ((h2 x hn).trans hv) h) hd
theorem lX {x:Str} {v:V} {u:Value} {pos:Pos} (hg:Gl X x) (hm:X.mg x=some u) (r:RelV v u) (hd:(x==("__debug__" : Str))=false:=by decide):PE X (.Name x pos) (tC v) :=
 fun _ _ _ H _ I h=>jQ I hg hm ⟨v,H,I,r,h⟩ hd
theorem iM {x:Str} {v:V} {u:Value} {pos:Pos} (hg:Gl X x) (hm:X.mg x=none) (hv:bootBuiltins x=some u) (r:RelV v u) (hn:x ≠ "__name__" := by decide) (hd:(x==("__debug__" : Str))=false:=by decide):PE X (.Name x pos) (tC v) :=
 fun _ _ _ H _ I h=>km I hg hm hv ⟨v,H,I,r,h⟩ hn hd
variable {a b:Expr} {ta tb:TE} {pos:Pos}
def PC (X:Cx) (op:CmpOp) (a b:Expr) (t:TE):Prop :=
 ∀ (pins:List (Addr×Obj)) (s:Shared) (σ:St) (H:Hp) (Q:VK),Inv X pins σ H s->t σ H Q ->
  wpAny (model X.prog X.w) X.A (eval a X.env) (fun v s₁=>wpAny (model X.prog X.w) X.A (eval b X.env) (fun u s₂=>wpAny (model X.prog X.w) X.A (compareOp op v u) (EP X pins σ Q) X.xe s₂) X.xe s₁) X.xe s
theorem uE (b:Expr) {op:CmpOp} (h:op≠.In) (h2:op≠.NotIn):behindInMarks op b=false:=by
 have e1:(op==CmpOp.In)=false:=by cases op <;> first | rfl | exact absurd rfl h
 have e2:(op==CmpOp.NotIn)=false:=by cases op <;> first | rfl | exact absurd rfl h2
 cases b <;> simp [behindInMarks,e1,e2]
def tB (t:TE):TT:=fun σ H Q=>t σ H fun x H1=>∃ c,x=.bl c/\Q c H1
theorem wI {op:CmpOp} {t:TE} (h:PC X op a b t) (h1:behindInMarks op b=false:=by first | exact uE _ (by decide) (by decide) | rfl):PT X (.Compare a [op] [b] pos) (tB t):=by
 intro pins s σ H Q I hw;refine wpAny_isTrue_Compare1 (thn (h pins s σ H _ I hw) fun v s1 h1=>thn h1 fun u s2 h2=>thn h2 fun c s3 ⟨x,H1,I1,r1,q1⟩=>?_) h1;obtain ⟨d,rfl,q⟩:=q1;cases r1;exact Kt ⟨H1,I1,q⟩
theorem BO {e:Expr} {t:TE} (h:PE X e t) (he:∀ whole,isTrue e X.env whole=(do let v<-whole;standAt e.pos;holding [v] (truthy v)):=by intro _;rfl):PT X e (tB t):=by
 intro pins s σ H Q I hw;refine isTrue_plain (thn (h pins s σ H _ I hw) fun v s1 ⟨x,H1,I1,r1,q1⟩=>?_) (he _);obtain ⟨d,rfl,q⟩:=q1;cases r1;exact Kt ⟨H1,I1,q⟩
variable {tA tB':TT} {rest:List Expr}
def ES (t u:TT):TT:=fun σ H Q=>t σ H fun c H1=>if c=true then u σ H1 Q else Q false H1
def tOr (t u:TT):TT:=fun σ H Q=>t σ H fun c H1=>if c=true then Q true H1 else u σ H1 Q
def Eh (t:TT):TT:=fun σ H Q=>t σ H fun c H1=>Q (!c) H1
theorem pw_and1 (ha:PT X a tA):PW X (.BoolOp .And [a] pos) tA:=by
 intro wh pins s σ H Q I h;refine isTrue_and (thn (ha pins s σ H Q I h) fun c s1 e=>?_);cases c with
 | true=>exact isTrue_and_nil e
 | false=>exact e
theorem pw_or1 (ha:PT X a tA):PW X (.BoolOp .Or [a] pos) tA:=by
 intro wh pins s σ H Q I h;refine isTrue_or (thn (ha pins s σ H Q I h) fun c s1 e=>?_);cases c with
 | false=>exact isTrue_or_nil e
 | true=>exact e
theorem pw_and (ha:PT X a tA) (hb:PW X (.BoolOp .And (b :: rest) pos) tB'):PW X (.BoolOp .And (a :: b :: rest) pos) (ES tA tB'):=by
 intro wh pins s σ H Q I h;refine isTrue_and (thn (ha pins s σ H _ I h) fun c s1 ⟨H1,I1,q1⟩=>?_);cases c with
 | true=>exact hb wh pins s1 σ H1 Q I1 q1
 | false=>exact ⟨H1,I1,q1⟩
theorem pw_or (ha:PT X a tA) (hb:PW X (.BoolOp .Or (b :: rest) pos) tB'):PW X (.BoolOp .Or (a :: b :: rest) pos) (tOr tA tB'):=by
 intro wh pins s σ H Q I h;refine isTrue_or (thn (ha pins s σ H _ I h) fun c s1 ⟨H1,I1,q1⟩=>?_);cases c with
 | true=>exact ⟨H1,I1,q1⟩
 | false=>exact hb wh pins s1 σ H1 Q I1 q1
theorem Cr (ha:PT X a tA):PT X (.UnaryOp .Not a pos) (Eh tA):=by
 intro pins s σ H Q I h;exact isTrue_not (ha pins s σ H (fun c H1=>Q (!c) H1) I h)
def yp (ta tb:TE):TE:=fun σ H Q=>ta σ H fun x H1=>∃ c,x=.bl c/\if c=true then tb σ H1 Q else Q (.bl false) H1
def EK (ta tb:TE):TE:=fun σ H Q=>ta σ H fun x H1=>∃ c,x=.bl c/\if c=true then Q (.bl true) H1 else tb σ H1 Q
def xq (ta:TE):TE:=fun σ H Q=>ta σ H fun x H1=>∃ c,x=.bl c/\Q (.bl (!c)) H1
theorem Aj {op} {t:TE} (h:PE X a t):PE X (.BoolOp op [a] pos) t:=fun pins s σ H Q I hw=>BoolOp_one (h pins s σ H Q I hw)
theorem BJ (ha:PE X a ta) (hb:PE X (.BoolOp .And (b :: rest) pos) tb):PE X (.BoolOp .And (a :: b :: rest) pos) (yp ta tb):=by
 intro pins s σ H Q I h;refine BoolOp_and (thn (ha pins s σ H _ I h) fun v s1 ⟨x,H1,I1,r1,q1⟩=>?_);obtain ⟨c,rfl,q1⟩:=q1;cases r1;refine Kt ?_;cases c with
 | true=>exact hb pins s1 σ H1 Q I1 q1
 | false=>exact ⟨.bl false,H1,I1,rfl,q1⟩
theorem FO (ha:PE X a ta) (hb:PE X (.BoolOp .Or (b :: rest) pos) tb):PE X (.BoolOp .Or (a :: b :: rest) pos) (EK ta tb):=by
 intro pins s σ H Q I h;refine BoolOp_or (thn (ha pins s σ H _ I h) fun v s1 ⟨x,H1,I1,r1,q1⟩=>?_);obtain ⟨c,rfl,q1⟩:=q1;cases r1;refine Kt ?_;cases c with
 | false=>exact hb pins s1 σ H1 Q I1 q1
 | true=>exact ⟨.bl true,H1,I1,rfl,q1⟩
theorem zQ (ha:PE X a ta):PE X (.UnaryOp .Not a pos) (xq ta):=by
 intro pins s σ H Q I h;refine UnaryOp_ (thn (ha pins s σ H _ I h) fun v s1 ⟨x,H1,I1,r1,q1⟩=>?_);obtain ⟨c,rfl,q1⟩:=q1;cases r1;exact not_of (Kt ⟨.bl (!c),H1,I1,rfl,q1⟩)
def tIf (t:TT) (ta tb:TE):TE:=fun σ H Q=>t σ H fun c H1=>if c=true then ta σ H1 Q else tb σ H1 Q
end
end L2
namespace L2
open PySem PySem.Spec PyProof.Rows
def SqL (K:Fg) (H:Hp) (a:Addr) (xs:List V):Prop :=
 Rd H a (.lst xs) \/
  ∃ (o:Obj) (its:Array Value) (n:Nat),K.lookup a=some o/\o.cls=.type "list" /\ o.dict=none/\o.data=.seq its n/\its.size<=sizeLine/\Vals xs its.toList
def SqT (K:Fg) (H:Hp) (a:Addr) (xs:List V):Prop :=
 Rd H a (.tup xs) \/
  ∃ (o:Obj) (its:Array Value) (n:Nat),K.lookup a=some o/\o.cls=.type "tuple" /\ o.data=.seq its n/\its.size<=sizeLine/\Vals xs its.toList
noncomputable def Ii:Value->Option V
 | .none=>some .non
 | .bool b=>some (.bl b)
 | .int i _=>some (.int i)
 | .str x _=>some (.str x)
 | .bytes b _=>some (.byt b)
 | .float b _=>some (.flt b)
 | .ref a=>some (.ref a)
 | .type n=>some (.ty n)
 | _=>none
theorem RelV.abs {x:V} {u:Value} (r:RelV x u):Ii u=some x:=by
 cases x with
 | non=>cases r;rfl
 | bl _=>cases r;rfl
 | int _=>obtain ⟨t,rfl⟩:=r;rfl
 | str _=>obtain ⟨t,rfl⟩:=r;rfl
 | byt _=>obtain ⟨t,rfl⟩:=r;rfl
 | flt _=>obtain ⟨t,rfl⟩:=r;rfl
 | ref _=>cases r;rfl
 | ty _=>cases r;rfl
theorem RelV.inj {x y:V} {u:Value} (r:RelV x u) (q:RelV y u):x=y:=Km (r.abs.symm.trans q.abs)
theorem Vals.inj:∀ {xs ys:List V} {us:List Value},Vals xs us->Vals ys us->xs=ys
 | _,_,_,.nil,.nil=>rfl
 | _,_,_,.cons r t,.cons r' t'=>by rw [r.inj r',Vals.inj t t']
section
variable {X:Cx} {pins:List (Addr×Obj)} {σ:St} {H:Hp} {s:Shared} {a:Addr} {xs ys:List V}
theorem SqT.of {K:Fg} (h:H a=some (.tup xs)):SqT K H a xs:=.inl (.inl h)
theorem Inv.list (I:Inv X pins σ H s) (h:SqL X.K H a xs):∃ its:List Value,Vals xs its/\PlainL s.heap a its.toArray/\xs.length<=sizeLine:=by
 rcases h with h | ⟨o,its,n,hk,hc,hd,hs,hz,r⟩
 ·obtain ⟨z,its,n,r,e⟩:=h.ok I.hok;exact ⟨its,r,⟨_,n,e,rfl,rfl,rfl⟩,z⟩
 ·refine ⟨its.toList,r,⟨o,n,I.kIn a o hk,hc,hd,by simpa using hs⟩,?_⟩;have e:=r.length;simp only [KG] at e;omega
theorem Inv.tuple (I:Inv X pins σ H s) (h:SqT X.K H a xs):∃ its:List Value,Vals xs its/\IsTup s.heap a its.toArray/\xs.length<=sizeLine:=by
 rcases h with h | ⟨o,its,n,hk,hc,hs,hz,r⟩
 ·obtain ⟨z,its,r,p⟩:=h.ok I.hok;exact ⟨its,r,p,z⟩
 ·refine ⟨its.toList,r,⟨o,I.kIn a o hk,hc,n,by simpa using hs⟩,?_⟩;have e:=r.length;simp only [KG] at e;omega
theorem Inv.uM (I:Inv X pins σ H s) (h:SqL X.K H a xs) (h':SqL X.K H a ys):xs=ys:=by
 obtain ⟨its,r,⟨o,n,e,_,_,d⟩,_⟩:=I.list h;obtain ⟨its',r',⟨o',n',e',_,_,d'⟩,_⟩:=I.list h';rw [e] at e';cases e';rw [d] at d';injection d' with d1 _;have:its=its':=by simpa using congrArg Array.toList d1
 subst this;exact r.inj r'
theorem Inv.qo (I:Inv X pins σ H s) (h:SqT X.K H a xs) (h':SqT X.K H a ys):xs=ys:=by
 obtain ⟨its,r,⟨o,e,_,n,d⟩,_⟩:=I.tuple h;obtain ⟨its',r',⟨o',e',_,n',d'⟩,_⟩:=I.tuple h';rw [e] at e';cases e';rw [d] at d';injection d' with d1 _;have:its=its':=by simpa using congrArg Array.toList d1
 subst this;exact r.inj r'
end
abbrev Cx.uw (X:Cx) (E:Value->Shared->Prop):Cx:={ X with xe:=E }
abbrev Cx.nox (X:Cx):Cx:=X.uw fun _ _=>False
theorem Cx.Ok.uw {X:Cx} (ok:X.Ok) (E:Value->Shared->Prop):(X.uw E).Ok :=
 ⟨ok.mod,ok.kind,ok.glob,ok.blt,ok.above,ok.inj,ok.has,ok.cab,ok.hd,ok.frames,ok.stk,ok.exf,ok.bs,ok.bsz,ok.wQ,ok.zh,ok.l8,ok.frf⟩
theorem Cx.Ok.fB {X:Cx} {E:Value->Shared->Prop} (ok:(X.uw E).Ok):X.Ok :=
 ⟨ok.mod,ok.kind,ok.glob,ok.blt,ok.above,ok.inj,ok.has,ok.cab,ok.hd,ok.frames,ok.stk,ok.exf,ok.bs,ok.bsz,ok.wQ,ok.zh,ok.l8,ok.frf⟩
section
variable {X:Cx} {pins:List (Addr×Obj)} {σ:St} {H:Hp} {s:Shared} {E:Value->Shared->Prop}
theorem Inv.uw (I:Inv X pins σ H s) (E:Value->Shared->Prop):Inv (X.uw E) pins σ H s:=⟨I.ok.uw E,I.os,I.bare,I.base,I.loc,I.cell,I.free,I.dU,I.pin,I.hok,I.len⟩
theorem Inv.fB (I:Inv (X.uw E) pins σ H s):Inv X pins σ H s:=⟨I.ok.fB,I.os,I.bare,I.base,I.loc,I.cell,I.free,I.dU,I.pin,I.hok,I.len⟩
theorem SP.fB {D:Ends} {f:Flow} {s':Shared} (h:SP (X.uw E) pins D f s'):SP X pins D f s':=by
 cases f with
 | next=>obtain ⟨σ',H',I,q⟩:=h;exact ⟨σ',H',I.fB,q⟩
 | brk=>obtain ⟨σ',H',I,q⟩:=h;exact ⟨σ',H',I.fB,q⟩
 | cont=>obtain ⟨σ',H',I,q⟩:=h;exact ⟨σ',H',I.fB,q⟩
 | ret u=>obtain ⟨v,σ',H',I,r,q⟩:=h;exact ⟨v,σ',H',I.fB,r,q⟩
theorem PSs.nox {st:List Stmt} {t:TS} (h:PSs X.nox st t):PSs X st t:=fun pins s σ H D I hw =>
 Ke (h pins s σ H D (I.uw _) hw) (fun _ _ q=>q.fB) fun _ _ z=>False.elim z
end
section
variable {X:Cx} {st:Stmt} {rest:List Stmt} {t u:TS} {e:Expr} {te:TE} {pos:Pos}
def pN:TS:=fun D σ H=>D.nx σ H
def wk (t u:TS):TS:=fun D σ H=>t { D with nx:=u D } σ H
theorem zo:PSs X [] pN:=fun _ _ σ H _ I h=>KY ⟨σ,H,I,h⟩
theorem u7 (h1:PS X st t) (h2:PSs X rest u):PSs X (st :: rest) (wk t u):=by
 intro pins s σ H D I h;refine KP (thn (h1 pins s σ H { D with nx:=u D } I h) fun f s1 q=>?_);cases f with
 | next =>
  obtain ⟨σ',H',I',q⟩:=q;exact h2 pins s1 σ' H' D I' q
 | ret v=>exact q
 | brk=>exact q
 | cont=>exact q
theorem yE (h1:PS X st t):PSs X [st] t:=by
 intro pins s σ H D I h;refine KP (thn (h1 pins s σ H D I h) fun f s1 q=>?_);cases f with
 | next=>exact KY q
 | ret v=>exact q
 | brk=>exact q
 | cont=>exact q
def zW:TS:=fun D σ H=>D.bk σ H
def Fb:TS:=fun D σ H=>D.ct σ H
theorem Inv.quiet {pins:List (Addr×Obj)} {σ:St} {H:Hp} {s:Shared} (I:Inv X pins σ H s):interactive X.env=false:=by simp [interactive,I.ok.kind]
def yJ (te:TE):TS:=fun D σ H=>te σ H fun _ H1=>D.nx σ H1
theorem yP (he:PE X e te) (hs:swapsWith e none pos.line X.env=pure false:=by rfl):PS X (.Expr e pos) (yJ te):=by
 intro pins s σ H D I h;exact wpAny_Expr_any (thn (he pins s σ H _ I h) fun v s1 ⟨x,H1,I1,r1,q1⟩=>⟨σ,H1,I1,q1⟩) I.quiet hs
def yq (te:TE):TS:=fun D σ H=>te σ H D.rt
theorem CS (he:PE X e te):PS X (.Return (some e) pos) (yq te):=by
 intro pins s σ H D I h;exact wpAny_Return_some (thn (he pins s σ H _ I h) fun v s1 ⟨x,H1,I1,r1,q1⟩=>⟨x,σ,H1,I1,r1,q1⟩)
def FN:TS:=fun D _ H=>D.rt .non H
def zg (c:TT) (t u:TS):TS:=fun D σ H=>c σ H fun b H1=>if b=true then t D σ H1 else u D σ H1
theorem Ej {c:Expr} {a b:List Stmt} {tc:TT} (hc:PT X c tc) (ha:PSs X a t) (hb:PSs X b u):PS X (.If c a b pos) (zg tc t u):=by
 intro pins s σ H D I h;refine wpAny_If (thn (hc pins s σ H _ I h) fun d s1 ⟨H1,I1,q1⟩=>?_);cases d with
 | true=>exact ha pins s1 σ H1 D I1 q1
 | false=>exact hb pins s1 σ H1 D I1 q1
def B3:TS:=fun _ _ _=>False
end
abbrev TG:=V->St->Hp->(St->Hp->Prop)->Prop
abbrev TGs:=List V->St->Hp->(St->Hp->Prop)->Prop
def PG (X:Cx) (target:Expr) (t:TG):Prop :=
 ∀ (pins:List (Addr×Obj)) (s:Shared) (σ:St) (H:Hp) (v:V) (u:Value) (Q:St->Hp->Prop),Inv X pins σ H s->RelV v u->t v σ H Q ->
  wpAny (model X.prog X.w) X.A (assign target X.env u) (fun _ s'=>∃ σ' H',Inv X pins σ' H' s'/\Q σ' H') X.xe s
section
variable {X:Cx} {pos:Pos}
def bQ (i:Nat):TG:=fun v σ H Q=>Q (σ.set i (some v)) H
theorem mG {i:Nat} {x:Str} (hN:X.N.Nodup) (hi:X.N[i]?=some x) (hx:Loc X.env.scope x) (hf:X.fn x=true\/X.env.scope.names.lookup x=some .local:=by first | exact .inl rfl | exact .inr rfl | assumption):PG X (.Name x pos) (bQ i):=by
 intro pins s σ H v u Q I r h;exact wpAny_assign_Name (gb I hN hi hx r (fun s' I'=>⟨_,H,I',h⟩) hf)
def Ip:TGs:=fun vs σ H Q=>vs=[]/\Q σ H
def Ee (t:TG) (u:TGs):TGs:=fun vs σ H Q=>∃ v r,vs=v :: r/\t v σ H fun σ' H'=>u r σ' H' Q
def Ji (K:Fg) (n:Nat) (t:TGs):TG:=fun v σ H Q=>∃ a xs,v=.ref a/\SqT K H a xs/\xs.length=n/\t xs σ H Q
def kN (te:TE) (g:TG):TS:=fun D σ H=>te σ H fun x H1=>g x σ H1 D.nx
theorem BY {i:Nat} {x:Str} {e:Expr} {te:TE} {pos':Pos} (hN:X.N.Nodup) (hi:X.N[i]?=some x) (hx:Loc X.env.scope x) (he:PE X e te) (hs:swapsWith e (some (.Name x pos')) pos.line X.env=pure false:=by rfl) (hf:X.fn x=true\/X.env.scope.names.lookup x=some .local:=by first | exact .inl rfl | exact .inr rfl | assumption) :
  PS X (.Assign [.Name x pos'] e pos) (kN te (bQ i)):=by
 intro pins s σ H D I h;refine wpAny_Assign_Name (thn (he pins s σ H _ I h) fun v s1 ⟨y,H1,I1,r1,q1⟩=>?_) hs;exact gb I1 hN hi hx r1 (fun s2 I2=>⟨_,H1,I2,q1⟩) hf
end
section
variable {X:Cx} {pos:Pos}
def se (c:TT) (tb:TS):TS:=fun D σ H=>∃ W:Nat->St->Hp->Prop,(∃ m,W m σ H)/\∀ m σ H,W m σ H ->
 c σ H fun b H1=>if b=true then ∃ N:St->Hp->Prop,(∀ σ' H',N σ' H'->∃ m',m' < m/\W m' σ' H')/\tb { D with nx:=N,ct:=N,bk:=D.nx } σ H1 else D.nx σ H1
theorem vA {c:Expr} {body:List Stmt} {tc:TT} {tb:TS} (hp:PassesOwn (model X.prog X.w) X.A X.env X.xe) (hc:PT X c tc) (hb:PSs X body tb):PS X (.While c body [] pos) (se tc tb):=by
 intro pins s σ H D I h;obtain ⟨W,⟨m0,w0⟩,turn⟩:=h;refine wpAny_While (codeAny_whileLoop (fun n s'=>∃ σ' H',Inv X pins σ' H' s'/\W n σ' H') ?_ m0 ⟨σ,H,I,w0⟩);rintro n s1 ⟨σ1,H1,I1,w1⟩;refine Ly hp (thn (hc pins s1 σ1 H1 _ I1 (turn n σ1 H1 w1)) fun b s2 ⟨H2,I2,q2⟩=>?_);cases b with
 | true =>
  obtain ⟨N,hN,q2⟩:=q2;rw [JB rfl];refine Ly hp (thn (hb pins s2 σ1 H2 _ I2 q2) fun f s3 q3=>?_);cases f with
  | next =>
   obtain ⟨σ3,H3,I3,n3⟩:=q3;obtain ⟨m',hm,w3⟩:=hN σ3 H3 n3;exact ⟨m',hm,σ3,H3,I3,w3⟩
  | cont =>
   obtain ⟨σ3,H3,I3,n3⟩:=q3;obtain ⟨m',hm,w3⟩:=hN σ3 H3 n3;exact ⟨m',hm,σ3,H3,I3,w3⟩
  | brk=>exact q3
  | ret v=>exact q3
 | false =>
  rw [Jz JL];exact KY ⟨σ1,H2,I2,q2⟩
end
structure It where
 go:Nat->Hp->Prop
 yld:Nat->Hp->V->Hp->Prop
 stop:Nat->Hp->Prop
def wL (X:Cx) (pins:List (Addr×Obj)) (H:Hp) (b:Addr):Prop :=
 H b=none/\b≠X.env.locals/\b ∉ X.fs/\(b∈X.ex\/X.s₀.heap.objs.size<=b)/\(∀ x c,X.env.cells.lookup x=some c->c≠b)/\∀ p∈X.pn++pins,p.1≠b
theorem Inv.DJ {X:Cx} {pins:List (Addr×Obj)} {σ:St} {H H':Hp} {s:Shared} {b:Addr} (I:Inv X pins σ H s) (hb:s.heap.objs.size<=b) (hn:H' b=none):wL X pins H' b:=by
 refine ⟨hn,Nat.ne_of_gt (J4 I.lt hb),I.C1 hb,.inr (Ka I.sz hb),fun x c e z=>?_,fun p hp z=>?_⟩
 ·obtain ⟨v,q⟩:=I.cell x c e;exact absurd (J4 q.lt (by rw [z];exact hb)) (Kr _)
 ·exact absurd (J4 (JX (I.pin p hp).1) (by rw [z];exact hb)) (Kr _)
structure Turn (P:Program) (w:World) (K:Fg) (tg:Expr) (J:It) (fp:List Addr) (it:Addr) (tn:Nat->Heap->Prop):Prop where
 mem:it∈fp
 obj:∀ i h,tn i h->∀ b∈fp,∃ o,h.get? b=some o/\∀ v,o.data≠.cell v
 keep:∀ i h h',tn i h->(∀ b∈fp,∀ o,h.get? b=some o->h'.get? b=some o)->tn i h'
 item:∀ (X:Cx),X.prog=P->X.w=w->X.K=K->X.calm=true->∀ (i:Nat) (pins:List (Addr×Obj)) (s:Shared) (σ:St) (H:Hp) (E:Value->Shared->Prop),Inv X pins σ H s->(∀ b∈fp,wL X pins H b)->tn i s.heap->J.go i H ->
  wpAny (model P w) X.A (pyNext (.ref it)) (fun r s1=>∃ u,r=some u /\
   wpAny (model P w) X.A (letOwnedTupleGo tg (.ref it) u) (fun _ s2=>∃ x H',Inv X pins σ H' s2/\RelV x u/\J.yld i H x H'/\tn (i+1) s2.heap/\∀ b∈fp,H' b=none) E s1) E s
 done:∀ (X:Cx),X.prog=P->X.w=w->X.K=K->X.calm=true->∀ (i:Nat) (pins:List (Addr×Obj)) (s:Shared) (σ:St) (H:Hp) (E:Value->Shared->Prop),Inv X pins σ H s->(∀ b∈fp,wL X pins H b)->tn i s.heap->J.stop i H ->
  wpAny (model P w) X.A (pyNext (.ref it)) (fun r s1=>r=none/\Inv X pins σ H s1) E s
 self:∀ (A:Around) (i:Nat) (s:Shared) (Q:Value->Shared->Prop) (E:Value->Shared->Prop),tn i s.heap->Q (.ref it) s->wpAny (model P w) A (pyIter (.ref it)) Q E s
abbrev TI:=St->Hp->(It->Hp->Prop)->Prop
def PIE (X:Cx) (pins:List (Addr×Obj)) (σ:St) (tg:Expr) (R:It->Hp->Prop) (itv:Value) (s2:Shared):Prop :=
 ∃ (it:Addr) (fp:List Addr) (tn:Nat->Heap->Prop) (J:It) (H':Hp),itv=.ref it/\Inv X pins σ H' s2/\Turn X.prog X.w X.K tg J fp it tn/\tn 0 s2.heap/\(∀ b∈fp,wL X pins H' b)/\R J H'
def PI (X:Cx) (tg iter:Expr) (wi:TI):Prop :=
 ∀ (pins:List (Addr×Obj)) (s:Shared) (σ:St) (H:Hp) (R:It->Hp->Prop),Inv X pins σ H s->wi σ H R ->
  wpAny (model X.prog X.w) X.A (eval iter X.env) (fun v s1=>wpAny (model X.prog X.w) X.A (pyIter v) (PIE X pins σ tg R) X.xe s1) X.xe s
theorem yF {M:Model} {A:Around} {E:Value->Shared->Prop} {s:Shared} {tg:Expr} {it:Addr} {u:Value} {o:Obj} {n:String} {vs:Array Value} {Q:Unit->Shared->Prop} (ho:s.heap.get? it=some o) (hc:o.cls=.type n) (hd:o.data=.fields vs)
    (hn:["enumerate", "zip", "dict_itemiterator", "dict_reverseitemiterator", "odict_iterator", "itertools.zip_longest", "itertools.pairwise"].contains n=false) (hQ:Q () s):wpAny M A (letOwnedTupleGo tg (.ref it) u) Q E s:=by
  unfold letOwnedTupleGo;cases tg <;> first
    | exact Jw hQ
    | (cases u <;> first
        | exact Jw hQ
        | (refine Jp (wpAny_load ho ?_)
           rw [hc,hd];show wpAny M A (if (["enumerate", "zip", "dict_itemiterator", "dict_reverseitemiterator", "odict_iterator", "itertools.zip_longest", "itertools.pairwise"].contains n&&vs[0]?==some (rawInt _))=true then _ else _) Q E s;rw [Jz (by intro h;rw [hn,Bool.false_and] at h;cases h)]
           exact Jw hQ))
def Itl (K:Fg) (a:Addr):It :=
 ⟨fun i H=>∃ xs x,SqL K H a xs/\xs[i]?=some x,fun i H x H'=>H'=H/\∀ xs,SqL K H a xs->xs[i]?=some x,fun i H=>∃ xs,SqL K H a xs/\xs.length<=i⟩
def Itt (K:Fg) (a:Addr):It :=
 ⟨fun i H=>∃ xs x,SqT K H a xs/\xs[i]?=some x,fun i H x H'=>H'=H/\∀ xs,SqT K H a xs->xs[i]?=some x,fun i H=>∃ xs,SqT K H a xs/\xs.length<=i⟩
def Itr (lo:Int) (n:Nat):It:=⟨fun i _=>i < n,fun i H x H'=>H'=H/\x=.int (lo+i),fun i _=>n<=i⟩
theorem qu {P:Program} {w:World} {K:Fg} {tg:Expr} (a it:Addr):Turn P w K tg (Itl K a) [it] it (fun i h=>h.IsListIter it a i) where
 mem:=by simp
 obj:=fun i h st b hb=>by
  have e:b=it:=by simpa using hb
  subst e;obtain ⟨o,e,c,d⟩:=st;exact ⟨o,e,fun v z=>by rw [d] at z;cases z⟩
 keep:=fun i h h' st k=>st.at fun o e=>k it (by simp) o e
 item:=by
  intro X hP hw hK hc i pins s σ H E I hf st hg;subst hP hw hK;obtain ⟨xs,x,hq,hx⟩:=hg;obtain ⟨its,rv,p,hz⟩:=I.list hq;obtain ⟨u,hu,ru⟩:=rv.get hx;obtain ⟨f0,f1,f2,f3,f4,f5⟩:=hf it (by simp);refine wpAny_pyNext_list_item st p.isList (x:=u) (by simpa using hu) fun h' st' sb=>?_;have I1:Inv X pins σ H { s with heap:=h' }:=I.turned (t':=s.toks) (fun b o hb e=>(sb.2 b hb).trans e) f0 f1 f3 f4 f5;obtain ⟨o,e,c,d⟩:=id st';exact ⟨u,rfl,yF (s:={ s with heap:=h' }) e c d (by decide) ⟨x,H,I1,ru,⟨rfl,fun ys hy=>by rw [I.uM hy hq];exact hx⟩,st',fun b hb=>(hf b hb).1⟩⟩
 done:=by
  intro X hP hw hK hc i pins s σ H E I hf st hg;subst hP hw hK;obtain ⟨xs,hq,hx⟩:=hg;obtain ⟨its,rv,p,hz⟩:=I.list hq;obtain ⟨f0,f1,f2,f3,f4,f5⟩:=hf it (by simp);have hl:=rv.length;exact wpAny_pyNext_list_end (I.ok.hd hc) st p.isList (by simp;omega) fun h' eb=>⟨rfl,I.turned (t':=s.toks) (fun b o hb e=>eb b o hb e) f0 f1 f3 f4 f5⟩
 self:=fun _ _ _ _ _ st h=>wpAny_pyIter_listiter st h
theorem pP {P:Program} {w:World} {K:Fg} {tg:Expr} (a it:Addr):Turn P w K tg (Itt K a) [it] it (fun i h=>h.IsTupleIter it a i) where
 mem:=by simp
 obj:=fun i h st b hb=>by
  have e:b=it:=by simpa using hb
  subst e;obtain ⟨o,e,c,d⟩:=st;exact ⟨o,e,fun v z=>by rw [d] at z;cases z⟩
 keep:=fun i h h' st k=>st.at fun o e=>k it (by simp) o e
 item:=by
  intro X hP hw hK hc i pins s σ H E I hf st hg;subst hP hw hK;obtain ⟨xs,x,hq,hx⟩:=hg;obtain ⟨its,rv,p,hz⟩:=I.tuple hq;obtain ⟨u,hu,ru⟩:=rv.get hx;obtain ⟨f0,f1,f2,f3,f4,f5⟩:=hf it (by simp);refine wpAny_pyNext_tuple_item st (show s.heap.IsTuple a its.toArray from p) (x:=u) (by simpa using hu) fun h' st' sb=>?_;have I1:Inv X pins σ H { s with heap:=h' }:=I.turned (t':=s.toks) (fun b o hb e=>(sb.2 b hb).trans e) f0 f1 f3 f4 f5;obtain ⟨o,e,c,d⟩:=id st';exact ⟨u,rfl,yF (s:={ s with heap:=h' }) e c d (by decide) ⟨x,H,I1,ru,⟨rfl,fun ys hy=>by rw [I.qo hy hq];exact hx⟩,st',fun b hb=>(hf b hb).1⟩⟩
 done:=by
  intro X hP hw hK hc i pins s σ H E I hf st hg;subst hP hw hK;obtain ⟨xs,hq,hx⟩:=hg;obtain ⟨its,rv,p,hz⟩:=I.tuple hq;obtain ⟨f0,f1,f2,f3,f4,f5⟩:=hf it (by simp);have hl:=rv.length;exact wpAny_pyNext_tuple_end (I.ok.hd hc) st (show s.heap.IsTuple a its.toArray from p) (by simp;omega) fun h' eb=>⟨rfl,I.turned (t':=s.toks) (fun b o hb e=>eb b o hb e) f0 f1 f3 f4 f5⟩
 self:=fun _ _ _ _ _ st h=>wpAny_pyIter_tupleiter st h
theorem pI {P:Program} {w:World} {K:Fg} {tg:Expr} (it:Addr) (lo:Int) (n:Nat):Turn P w K tg (Itr lo n) [it] it (fun i h=>IsRangeIter h it (lo+(i:Nat)*1) ((n:Int) - (i:Nat)) 1) where
 mem:=by simp
 obj:=fun i h st b hb=>by
  have e:b=it:=by simpa using hb
  subst e
  exact ⟨_,st,fun v z=>by
   have z':Data.fields _=Data.cell v:=z
   cases z'⟩
 keep:=fun i h h' st k=>k it (by simp) _ st
 item:=by
  intro X hP hw hK hc i pins s σ H E I hf st hg;subst hP hw hK;obtain ⟨f0,f1,f2,f3,f4,f5⟩:=hf it (by simp);have W:=Walks.range (prog:=X.prog) (w:=X.w) (I.ok.hd hc) it lo 1 n;refine W.item i s _ _ hg st fun v h' tk hv st' kk=>?_;obtain ⟨t,rfl⟩:=hv;have I1:Inv X pins σ H { s with heap:=h',toks:=tk }:=I.turned (fun b o hb e=>kk b o (by simpa using hb) e) f0 f1 f3 f4 f5;refine ⟨_,rfl,yF (s:={ s with heap:=h',toks:=tk }) (n := "range_iterator") st' rfl rfl (by decide) ⟨.int (lo+i),H,I1,⟨t,?_⟩,⟨rfl,rfl⟩,st',fun b hb=>(hf b hb).1⟩⟩;rw [Int.mul_one]
 done:=by
  intro X hP hw hK hc i pins s σ H E I hf st hg;subst hP hw hK;obtain ⟨f0,f1,f2,f3,f4,f5⟩:=hf it (by simp);exact wpAny_pyNext_range_end (I.ok.hd hc) st (by have:n<=i:=hg;omega) fun h' eb=>⟨rfl,I.turned (t':=s.toks) (fun b o hb e=>eb b o hb e) f0 f1 f3 f4 f5⟩
 self:=fun _ _ _ _ _ st h=>wpAny_pyIter_rangeiter st h
end L2
namespace L2
open PySem PySem.Spec PyProof.Rows
section
variable {X:Cx} {tg:Expr}
def uD (K:Fg) (tl:TE):TI:=fun σ H R=>tl σ H fun x H1=>∃ a,x=.ref a/\(∃ xs,SqL K H1 a xs)/\R (Itl K a) H1
def DM (K:Fg) (tl:TE):TI:=fun σ H R=>tl σ H fun x H1=>∃ a,x=.ref a/\(∃ xs,SqT K H1 a xs)/\R (Itt K a) H1
theorem rh {l:Expr} {tl:TE} (hl:PE X l tl):PI X tg l (uD X.K tl):=by
 intro pins s σ H R I h;refine thn (hl pins s σ H _ I h) fun v s1 ⟨x,H1,I1,r1,q1⟩=>?_;obtain ⟨a,e,⟨xs,hq⟩,q⟩:=q1;subst e;cases r1;obtain ⟨its,rv,p,hz⟩:=I1.list hq;refine wpAny_pyIter_list p.isList ?_;refine ⟨s1.heap.objs.size,[s1.heap.objs.size],_,_,H1,rfl,I1.kept (t':=s1.toks) fun b o e=>JN _ e,qu a _,⟨_,Kc _ rfl,rfl,rfl⟩,fun b hb=>?_,q⟩;have e:b=s1.heap.objs.size:=by simpa using hb
 subst e;exact I1.DJ (JH _) (I1.hok.fresh (JH _))
theorem vO {l:Expr} {tl:TE} (hl:PE X l tl):PI X tg l (DM X.K tl):=by
 intro pins s σ H R I h;refine thn (hl pins s σ H _ I h) fun v s1 ⟨x,H1,I1,r1,q1⟩=>?_;obtain ⟨a,e,⟨xs,hq⟩,q⟩:=q1;subst e;cases r1;obtain ⟨its,rv,p,hz⟩:=I1.tuple hq;refine wpAny_pyIter_tuple (show s1.heap.IsTuple a its.toArray from p) ?_;refine ⟨s1.heap.objs.size,[s1.heap.objs.size],_,_,H1,rfl,I1.kept (t':=s1.toks) fun b o e=>JN _ e,pP a _,⟨_,Kc _ rfl,rfl,rfl⟩,fun b hb=>?_,q⟩;have e:b=s1.heap.objs.size:=by simpa using hb
 subst e;exact I1.DJ (JH _) (I1.hok.fresh (JH _))
theorem vK {pins:List (Addr×Obj)} {σ:St} {H:Hp} {s:Shared} {R:It->Hp->Prop} {E:Value->Shared->Prop} {lo hi:Int} {t u v:Tok} {tk:Nat} (I:Inv X pins σ H s) (h1:-(2 ^ 62)<=lo) (h2:lo < 2 ^ 62) (h3:-(2 ^ 62)<=hi) (h4:hi < 2 ^ 62)
  (q:R (Itr lo (hi - lo).toNat) H):wpAny (model X.prog X.w) X.A (pyIter (.ref s.heap.objs.size)) (PIE X pins σ tg R) E { s with heap:=s.heap.push { cls:=.type "range", data:=.fields #[.int lo t,.int hi u,.int 1 v] },toks:=tk }:=by
 refine wpAny_pyIter_range (IsRange.new ..) (small_one h1 h2 h3 h4) ?_;have I1:Inv X pins σ H { s with heap:=s.heap.push { cls:=.type "range", data:=.fields #[.int lo t,.int hi u,.int 1 v] },toks:=tk }:=I.kept fun b o e=>JN _ e
 refine ⟨(s.heap.push { cls:=.type "range", data:=.fields #[.int lo t,.int hi u,.int 1 v] }).objs.size,[(s.heap.push { cls:=.type "range", data:=.fields #[.int lo t,.int hi u,.int 1 v] }).objs.size],_,_,H,rfl,
  I1.kept (t':=tk) fun b o e=>JN _ e,pI _ lo (hi - lo).toNat,?_,fun b hb=>?_,q⟩
 ·have e1:lo+((0:Nat):Int)*1=lo:=by simp
  have e2:(((hi - lo).toNat:Nat):Int) - ((0:Nat):Int)=Builtin.Range.rangeSize lo hi 1:=by rw [rangeSize_one];split <;> omega
  show IsRangeIter _ _ (lo+((0:Nat):Int)*1) ((((hi - lo).toNat:Nat):Int) - ((0:Nat):Int)) 1;rw [e1,e2];exact Kc _ rfl
 ·have e:b=(s.heap.push { cls:=.type "range", data:=.fields #[.int lo t,.int hi u,.int 1 v] }).objs.size:=by simpa using hb
  subst e;exact I1.DJ (JH _) (I1.hok.fresh (JH _))
def yf (ta:TA):TI:=fun σ H R=>ta σ H fun vs H1=>∃ j:Int,vs=[.int j]/\-(2 ^ 62)<=j/\j < 2 ^ 62/\R (Itr 0 j.toNat) H1
def EM (ta:TA):TI:=fun σ H R=>ta σ H fun vs H1=>∃ i j:Int,vs=[.int i,.int j]/\(-(2 ^ 62)<=i/\i < 2 ^ 62/\-(2 ^ 62)<=j/\j < 2 ^ 62)/\R (Itr i (j - i).toNat) H1
theorem qZ {a:Expr} {ta:TA} {p pos:Pos} (hg:Gl X "range") (hm:X.mg "range" = none) (ha:PA X [a] ta) (hs:starEach [a] X.env=[(false,eval a X.env)]:=by rfl):PI X tg (.Call (.Name "range" p) [a] [] pos) (yf ta):=by
 intro pins s σ H R I h;refine Call_ (km I hg hm boot_range (PyProof.Rows.callWith_type1 (thn (ha pos pins s σ H _ I h) fun us s1 ⟨vs,H1,I1,r1,q1⟩=>?_) hs rfl));obtain ⟨j,e,q1,q2,q⟩:=q1;subst e;cases r1 with
 | cons r rr =>
  cases rr;obtain ⟨t,rfl⟩:=r;exact call_range_1 (vK I1 (by omega) (by omega) q1 q2 (by simpa using q))
def A3 (wi:TI) (g:TG) (tb:TS):TS:=fun D σ H=>wi σ H fun J H1=>∃ W:Nat->Nat->St->Hp->Prop,(∃ m,W 0 m σ H1)/\∀ i m σ H,W i m σ H ->
 (J.stop i H/\D.nx σ H)\/(J.go i H/\∃ N:St->Hp->Prop,(∀ σ' H',N σ' H'->∃ m',m' < m/\W (i+1) m' σ' H')/\∀ x H',J.yld i H x H'->g x σ H' fun σ2 H2=>tb { D with nx:=N,ct:=N,bk:=D.nx } σ2 H2)
noncomputable def kZ (fp:List Addr) (h:Heap):List (Addr×Obj):=fp.filterMap fun b=>(h.get? b).map fun o=>(b,o)
theorem dg {fp:List Addr} {h:Heap} {b:Addr} {o:Obj} (hb:b∈fp) (e:h.get? b=some o):(b,o)∈kZ fp h:=List.mem_filterMap.mpr ⟨b,hb,by rw [e];rfl⟩
theorem pT {fp:List Addr} {h:Heap} {p:Addr×Obj} (hp:p∈kZ fp h):p.1∈fp/\h.get? p.1=some p.2:=by
 obtain ⟨b,hb,e⟩:=List.mem_filterMap.mp hp;cases q:h.get? b with
 | none=>rw [q] at e;cases e
 | some o =>
  rw [q] at e;have e':(b,o)=p:=Km e;subst e';exact ⟨hb,q⟩
theorem Inv.pinned {pins:List (Addr×Obj)} {σ:St} {H:Hp} {s:Shared} {fp:List Addr} (I:Inv X pins σ H s) (hf:∀ b∈fp,wL X pins H b) (ho:∀ b∈fp,∃ o,s.heap.get? b=some o/\∀ v,o.data≠.cell v):Inv X (pins++kZ fp s.heap) σ H s :=
 I.cA fun p hp=>(Kb.mp hp).elim (fun z=>I.pin p (Jx _ z)) fun z=>by
  obtain ⟨hb,e⟩:=pT z;obtain ⟨f0,f1,f2,_⟩:=hf p.1 hb;obtain ⟨o,e',d⟩:=ho p.1 hb;rw [e] at e';cases e';exact ⟨e,f0,f1,f2,d⟩
theorem Inv.fY {pins pl:List (Addr×Obj)} {σ:St} {H:Hp} {s:Shared} (I:Inv X (pins++pl) σ H s):Inv X pins σ H s:=I.cA fun p hp=>I.pin p (Jx _ (J9 _ hp))
theorem CF {iter:Expr} {body:List Stmt} {wi:TI} {g:TG} {tb:TS} {pos:Pos} (hp:PassesOwn (model X.prog X.w) X.A X.env X.xe) (hc:X.calm=true) (hi:PI X tg iter wi) (hg:PG X tg g) (hb:PSs X body tb)
  (hs:∀ x,foldedSetIterable iter X.env x=pure x:=by intro _;rfl):PS X (.For tg iter body [] pos) (A3 wi g tb):=by
 intro pins s σ H D I h;refine wpAny_For (thn (hi pins s σ H _ I h) fun v s1 h1=>thn h1 fun itv s2 h2=>?_) hs;obtain ⟨it,fp,tn,J,H2,e,I2,T,st2,f2,W,⟨m0,w0⟩,turn⟩:=h2;subst e;have stat:∀ {H':Hp},(∀ b∈fp,H' b=none)->∀ b∈fp,wL X pins H' b:=fun hn b hb=>⟨hn b hb,(f2 b hb).2⟩;refine codeAny_forLoop_any (fun n s'=>∃ i σ' H',Inv X pins σ' H' s'/\tn i s'.heap/\(∀ b∈fp,H' b=none)/\W i n σ' H') ?_ m0 ⟨0,σ,H2,I2,st2,fun b hb=>(f2 b hb).1,w0⟩;rintro n s3 ⟨i,σ3,H3,I3,st3,fr3,w3⟩;rcases turn i n σ3 H3 w3 with ⟨stop,qn⟩ | ⟨go,N,hN,step⟩
 ·refine Ly hp (thn (T.done X rfl rfl rfl hc i pins s3 σ3 H3 X.xe I3 (stat fr3) st3 stop) fun r s4 ⟨hr,I4⟩=>?_);subst hr;exact KY ⟨σ3,H3,I4,qn⟩
 ·refine Ly hp (thn (T.item X rfl rfl rfl hc i pins s3 σ3 H3 X.xe I3 (stat fr3) st3 go) fun r s4 ⟨u,hr,h4⟩=>?_);subst hr;refine Ly hp (thn h4 fun _ s5 ⟨x,H5,I5,r5,y5,st5,fr5⟩=>?_);have I5':=I5.pinned (stat fr5) (T.obj _ _ st5);refine Ly hp (thn (hg _ s5 σ3 H5 x u _ I5' r5 (step x H5 y5)) fun _ s6 ⟨σ6,H6,I6,q6⟩=>?_);refine Ly hp (thn (hb _ s6 σ6 H6 _ I6 q6) fun f s7 q7=>?_);have again:∀ {σ7:St} {H7:Hp},Inv X (pins++kZ fp s5.heap) σ7 H7 s7->N σ7 H7->∃ m,m < n/\∃ i σ' H',Inv X pins σ' H' s7/\tn i s7.heap/\(∀ b∈fp,H' b=none)/\W i m σ' H':=fun {σ7 H7} I7 n7=>by
   obtain ⟨m',hm,w7⟩:=hN σ7 H7 n7;refine ⟨m',hm,i+1,σ7,H7,I7.fY,T.keep _ _ _ st5 fun b hb o e=>(I7.pin (b,o) (Jx _ (Jx _ (dg hb e)))).1,fun b hb=>?_,w7⟩;obtain ⟨o,e,d⟩:=T.obj _ _ st5 b hb;exact (I7.pin (b,o) (Jx _ (Jx _ (dg hb e)))).2.1
  cases f with
  | next=>obtain ⟨σ7,H7,I7,n7⟩:=q7;exact again I7 n7
  | cont=>obtain ⟨σ7,H7,I7,n7⟩:=q7;exact again I7 n7
  | brk=>obtain ⟨σ7,H7,I7,q7⟩:=q7;exact ⟨σ7,H7,I7.fY,q7⟩
  | ret v=>obtain ⟨x7,σ7,H7,I7,r7,q7⟩:=q7;exact ⟨x7,σ7,H7,I7.fY,r7,q7⟩
end
end L2
namespace L2
open PySem PySem.Spec PyProof.Rows
abbrev R2:=V->V->Hp->VK->Prop
def OpR (X:Cx) (f:Value->Value->Sem Value) (r:R2):Prop :=
 ∀ (pins:List (Addr×Obj)) (s:Shared) (σ:St) (H:Hp) (x y:V) (v u:Value) (Q:VK),Inv X pins σ H s->RelV x v->RelV y u->r x y H Q ->
  wpAny (model X.prog X.w) X.A (f v u) (EP X pins σ Q) X.xe s
def UnR (X:Cx) (f:Value->Sem Value) (r:V->Hp->VK->Prop):Prop :=
 ∀ (pins:List (Addr×Obj)) (s:Shared) (σ:St) (H:Hp) (x:V) (v:Value) (Q:VK),Inv X pins σ H s->RelV x v->r x H Q ->
  wpAny (model X.prog X.w) X.A (f v) (EP X pins σ Q) X.xe s
def aJ (X:Cx) (f:Value) (r:List V->Hp->VK->Prop):Prop :=
 ∀ (pins:List (Addr×Obj)) (s:Shared) (σ:St) (H:Hp) (xs:List V) (us:List Value) (Q:VK),Inv X pins σ H s->Vals xs us->r xs H Q ->
  wpAny (model X.prog X.w) X.A (call f us) (EP X pins σ Q) X.xe s
def Ik (X:Cx) (r:V->Hp->(Bool->Hp->Prop)->Prop):Prop :=
 ∀ (pins:List (Addr×Obj)) (s:Shared) (σ:St) (H:Hp) (x:V) (v:Value) (Q:Bool->Hp->Prop),Inv X pins σ H s->RelV x v->r x H Q ->
  wpAny (model X.prog X.w) X.A (truthy v) (TP X pins σ Q) X.xe s
def tOp (r:R2) (ta tb:TE):TE:=fun σ H Q=>ta σ H fun x H1=>tb σ H1 fun y H2=>r x y H2 Q
def tUn (r:V->Hp->VK->Prop) (ta:TE):TE:=fun σ H Q=>ta σ H fun x H1=>r x H1 Q
def rI (C:Int->Int->Prop) (g:Int->Int->V):R2:=fun x y H Q=>∃ i j,x=.int i/\y=.int j/\C i j/\Q (g i j) H
def rI0 (g:Int->Int->V):R2:=fun x y H Q=>∃ i j,x=.int i/\y=.int j/\Q (g i j) H
def rU (g:Int->V):V->Hp->VK->Prop:=fun x H Q=>∃ i,x=.int i/\Q (g i) H
section
variable {X:Cx} {a b c:Expr} {ta tb tc:TE} {pos:Pos}
theorem ER (ha:PE X a ta) (hb:PE X b tb) {pins:List (Addr×Obj)} {s:Shared} {σ:St} {H:Hp} {R:V->V->Hp->Prop} (I:Inv X pins σ H s)
  (h:ta σ H fun x H1=>tb σ H1 fun y H2=>R x y H2) {Q:Value->Shared->Prop} {f:Value->Value->Sem Value}
  (hf:∀ v u s2 x y H2,Inv X pins σ H2 s2->RelV x v->RelV y u->R x y H2->wpAny (model X.prog X.w) X.A (f v u) Q X.xe s2) :
  wpAny (model X.prog X.w) X.A (eval a X.env) (fun v s₁=>wpAny (model X.prog X.w) X.A (eval b X.env) (fun u s₂=>wpAny (model X.prog X.w) X.A (f v u) Q X.xe s₂) X.xe s₁) X.xe s:=by
 refine thn (ha pins s σ H _ I h) fun v s1 ⟨x,H1,I1,r1,q1⟩=>?_;refine thn (hb pins s1 σ H1 _ I1 q1) fun u s2 ⟨y,H2,I2,r2,q2⟩=>?_;exact hf v u s2 x y H2 I2 r1 r2 q2
theorem GJ {op:Operator} {r:R2} (ho:OpR X (binaryOp op) r) (ha:PE X a ta) (hb:PE X b tb):PE X (.BinOp a op b pos) (tOp r ta tb):=by
 intro pins s σ H Q I h;exact wpAny_BinOp (ER ha hb I h fun v u s2 x y H2 I2 rx ry q=>ho pins s2 σ H2 x y v u Q I2 rx ry q)
theorem EX {op:UnaryOp} {r:V->Hp->VK->Prop} (ho:UnR X (unaryOp op) r) (ha:PE X a ta):PE X (.UnaryOp op a pos) (tUn r ta):=by
 intro pins s σ H Q I h;exact UnaryOp_ (thn (ha pins s σ H _ I h) fun v s1 ⟨x,H1,I1,r1,q1⟩=>ho pins s1 σ H1 x v Q I1 r1 q1)
theorem opI {f:Value->Value->Sem Value} {C:Int->Int->Prop} {g:Int->Int->Int}
  (rule:∀ (i j:Int) (t u:Tok) (s:Shared) (Q:Value->Shared->Prop) (E:Value->Shared->Prop),C i j->Q (.int (g i j) s.toks) { s with toks:=s.toks+1 }->wpAny (model X.prog X.w) X.A (f (.int i t) (.int j u)) Q E s) :
  OpR X f (rI C fun i j=>.int (g i j)):=by
 intro pins s σ H x y v u Q I rx ry h;obtain ⟨i,j,rfl,rfl,hc,q⟩:=h;obtain ⟨t,rfl⟩:=rx;obtain ⟨t',rfl⟩:=ry;exact rule i j t t' s _ _ hc ⟨.int (g i j),H,I.tok _,⟨_,rfl⟩,q⟩
theorem Hk {f:Value->Value->Sem Value} {g:Int->Int->Int}
  (rule:∀ (i j:Int) (t u:Tok) (s:Shared) (Q:Value->Shared->Prop) (E:Value->Shared->Prop),Q (.int (g i j) s.toks) { s with toks:=s.toks+1 }->wpAny (model X.prog X.w) X.A (f (.int i t) (.int j u)) Q E s) :
  OpR X f (rI0 fun i j=>.int (g i j)):=by
 intro pins s σ H x y v u Q I rx ry h;obtain ⟨i,j,rfl,rfl,q⟩:=h;obtain ⟨t,rfl⟩:=rx;obtain ⟨t',rfl⟩:=ry;exact rule i j t t' s _ _ ⟨.int (g i j),H,I.tok _,⟨_,rfl⟩,q⟩
theorem DT {f:Value->Value->Sem Value} {g:Int->Int->Bool}
  (rule:∀ (i j:Int) (t u:Tok) (s:Shared) (Q:Value->Shared->Prop) (E:Value->Shared->Prop),Q (.bool (g i j)) s->wpAny (model X.prog X.w) X.A (f (.int i t) (.int j u)) Q E s) :
  OpR X f (rI0 fun i j=>.bl (g i j)):=by
 intro pins s σ H x y v u Q I rx ry h;obtain ⟨i,j,rfl,rfl,q⟩:=h;obtain ⟨t,rfl⟩:=rx;obtain ⟨t',rfl⟩:=ry;exact rule i j t t' s _ _ ⟨.bl (g i j),H,I,rfl,q⟩
def HE (i j:Int):Prop:=0<=j/\j<=1000000/\i.natAbs < 2 ^ 64
def De (i j:Int):Prop:=(-(2 ^ 64) < i/\i < 2 ^ 64)\/(-(2 ^ 64) < j/\j < 2 ^ 64)
theorem De.ok {i j:Int} (h:De i j):IntMulOk i j:=by
 rcases h with ⟨h1,h2⟩ | ⟨h1,h2⟩
 ·exact .of_left (intBits_le_64 h1 h2)
 ·exact .of_right (intBits_le_64 h1 h2)
theorem Aq:OpR X (binaryOp .Add) (rI0 fun i j=>.int (i+j)):=Hk fun _ _ _ _ _ _ _ q=>add_int q
theorem Cp:OpR X (binaryOp .Sub) (rI0 fun i j=>.int (i - j)):=Hk fun _ _ _ _ _ _ _ q=>sub_int q
theorem CQ:OpR X (binaryOp .Mult) (rI De fun i j=>.int (i*j)):=opI fun _ _ _ _ _ _ _ hc q=>mul_int q hc.ok
theorem Bs:OpR X (binaryOp .Mod) (rI (fun _ j=>0 < j) fun i j=>.int (i % j)):=opI fun i j _ _ _ _ _ hc q=>by
 have h1:(0:Int) < j:=hc;exact mod_int' (by omega) (by rw [Int.fmod_eq_emod_of_nonneg i (by omega)];exact q)
theorem Ba:OpR X (binaryOp .Pow) (rI HE fun i j=>.int (i ^ j.toNat)):=opI fun _ _ _ _ _ _ _ hc q=>pow_int_small hc.1 hc.2.1 hc.2.2 q
theorem unI {f:Value->Sem Value} {g:Int->Int}
  (rule:∀ (i:Int) (t:Tok) (s:Shared) (Q:Value->Shared->Prop) (E:Value->Shared->Prop),Q (.int (g i) s.toks) { s with toks:=s.toks+1 }->wpAny (model X.prog X.w) X.A (f (.int i t)) Q E s) :
  UnR X f (rU fun i=>.int (g i)):=by
 intro pins s σ H x v Q I rx h;obtain ⟨i,rfl,q⟩:=h;obtain ⟨t,rfl⟩:=rx;exact rule i t s _ _ ⟨.int (g i),H,I.tok _,⟨_,rfl⟩,q⟩
theorem DE:UnR X (unaryOp .USub) (rU fun i=>.int (-i)):=unI fun _ _ _ _ _ q=>neg_int q
end
section
variable {X:Cx} {a b c:Expr} {ta tb tc:TE} {pos:Pos}
theorem rV {pins:List (Addr×Obj)} {σ:St} {H:Hp} {s:Shared} {Q:VK} {k k':Bool} (I:Inv X pins σ H s) (q:Q (.bl k) H) (e:k=k'):EP X pins σ Q (.bool k') s:=by
 subst e;exact ⟨.bl k,H,I,rfl,q⟩
theorem Ek:OpR X (compareOp .Lt) (rI0 fun i j=>.bl (decide (i < j))):=DT fun _ _ _ _ _ _ _ q=>lt_int q
theorem Fh:OpR X (compareOp .LtE) (rI0 fun i j=>.bl (decide (i<=j))):=DT fun _ _ _ _ _ _ _ q=>le_int q
theorem Ef:OpR X (compareOp .Gt) (rI0 fun i j=>.bl (decide (j < i))):=DT fun _ _ _ _ _ _ _ q=>gt_int q
theorem FX:OpR X (compareOp .GtE) (rI0 fun i j=>.bl (decide (j<=i))):=DT fun _ _ _ _ _ _ _ q=>ge_int q
theorem qx:OpR X (compareOp .Lt) (fun x y H Q=>∃ i j,x=.str i/\y=.str j/\Q (.bl (decide (i.cps.toList < j.cps.toList))) H):=by
 intro pins s σ H x y v u Q I rx ry h;obtain ⟨i,j,rfl,rfl,q⟩:=h;obtain ⟨t,rfl⟩:=rx;obtain ⟨t',rfl⟩:=ry;exact lt_str (rV I q rfl)
theorem qY:OpR X (compareOp .In) (fun x y H Q=>∃ i j,x=.str i/\y=.str j/\Q (.bl (!(Builtin.Str.occurrences j i 0 j.length 1).isEmpty)) H):=by
 intro pins s σ H x y v u Q I rx ry h;obtain ⟨i,j,rfl,rfl,q⟩:=h;obtain ⟨t,rfl⟩:=rx;obtain ⟨t',rfl⟩:=ry;exact in_str (rV I q rfl)
theorem AO:OpR X (compareOp .Is) (fun x y H Q=>y=.non/\Q (.bl (decide (x=.non))) H):=by
 intro pins s σ H x y v u Q I rx ry h;obtain ⟨rfl,q⟩:=h;cases ry;refine is_none_gen (rV I q ?_);cases x <;> first
  | (cases rx;rfl)
  | (obtain ⟨t,rfl⟩:=rx;rfl)
theorem eE (b:Expr) {op:CmpOp} (h:op≠.In:=by decide) (h2:op≠.NotIn:=by decide):behindInMarks op b=false:=by
 have e1:(op==CmpOp.In)=false:=by cases op <;> first | rfl | exact absurd rfl h
 have e2:(op==CmpOp.NotIn)=false:=by cases op <;> first | rfl | exact absurd rfl h2
 cases b <;> simp [behindInMarks,e1,e2]
theorem ya {op:CmpOp} {r:R2} (ho:OpR X (compareOp op) r) (ha:PE X a ta) (hb:PE X b tb) (hm:behindInMarks op b=false):PE X (.Compare a [op] [b] pos) (tOp r ta tb):=by
 intro pins s σ H Q I h;exact wpAny_Compare1 (ER ha hb I h fun v u s2 x y H2 I2 rx ry q=>ho pins s2 σ H2 x y v u Q I2 rx ry q) hm
def mQ (t:TE):TT:=fun σ H Q=>t σ H fun x H'=>∃ k,x=.bl k/\Q k H'
theorem yi {op:CmpOp} {r:R2} (ho:OpR X (compareOp op) r) (ha:PE X a ta) (hb:PE X b tb) (hm:behindInMarks op b=false):PT X (.Compare a [op] [b] pos) (mQ (tOp r ta tb)):=by
 intro pins s σ H Q I h
 refine wpAny_isTrue_Compare1 (thn (ha pins s σ H _ I h) fun v s1 ⟨x,H1,I1,r1,q1⟩=>thn (hb pins s1 σ H1 _ I1 q1) fun u s2 ⟨y,H2,I2,r2,q2⟩ =>
  thn (ho pins s2 σ H2 x y v u _ I2 r1 r2 q2) fun c s3 ⟨z,H3,I3,r3,k,e,q3⟩=>?_) hm
 subst e;cases r3;exact Kt ⟨H3,I3,q3⟩
def kY (r r':R2) (ta tb tc:TE):TE:=fun σ H Q=>ta σ H fun x H1=>tb σ H1 fun y H2=>r x y H2 fun z H3=>∃ k,z=.bl k /\
 (if k=true then tc σ H3 fun w' H4=>r' y w' H4 Q else Q (.bl false) H3)
theorem uK {op op':CmpOp} {r r':R2} (ho:OpR X (compareOp op) r) (ho':OpR X (compareOp op') r') (ha:PE X a ta) (hb:PE X b tb) (hc:PE X c tc)
  (hm:lastMarks [op,op'] [b,c]=false:=by with_unfolding_all rfl):PE X (.Compare a [op,op'] [b,c] pos) (kY r r' ta tb tc):=by
 intro pins s σ H Q I h
 refine Compare_chain (thn (ha pins s σ H _ I h) fun v s1 ⟨x,H1,I1,r1,q1⟩=>chain_link (thn (hb pins s1 σ H1 _ I1 q1) fun u s2 ⟨y,H2,I2,r2,q2⟩ =>
  thn (ho pins s2 σ H2 x y v u _ I2 r1 r2 q2) fun d s3 ⟨z,H3,I3,r3,k,e,q3⟩=>?_)) hm
 subst e;cases r3;refine Kt ?_;cases k with
 | false=>exact ite_ff ⟨.bl false,H3,I3,rfl,q3⟩
 | true=>exact ite_tt (chain_last (thn (hc pins s3 σ H3 _ I3 q3) fun w' s4 ⟨z',H4,I4,r4,q4⟩=>ho' pins s4 σ H4 y z' u w' Q I4 r2 r4 q4))
theorem vB {op op':CmpOp} {r r':R2} (ho:OpR X (compareOp op) r) (ho':OpR X (compareOp op') r') (ha:PE X a ta) (hb:PE X b tb) (hc:PE X c tc)
  (hm:lastMarks [op,op'] [b,c]=false:=by with_unfolding_all rfl):PT X (.Compare a [op,op'] [b,c] pos) (mQ (kY r r' ta tb tc)):=by
 intro pins s σ H Q I h
 refine isTrue_chain (thn (ha pins s σ H _ I h) fun v s1 ⟨x,H1,I1,r1,q1⟩=>test_link (thn (hb pins s1 σ H1 _ I1 q1) fun u s2 ⟨y,H2,I2,r2,q2⟩ =>
  thn (ho pins s2 σ H2 x y v u _ I2 r1 r2 q2) fun d s3 ⟨z,H3,I3,r3,k,e,q3⟩=>?_)) hm
 subst e;cases r3;refine Kt ?_;cases k with
 | false =>
  obtain ⟨k',e',q'⟩:=q3;cases e';exact ite_ff ⟨H3,I3,q'⟩
 | true =>
  refine ite_tt (test_last (thn (hc pins s3 σ H3 _ I3 q3) fun w' s4 ⟨z',H4,I4,r4,q4⟩=>thn (ho' pins s4 σ H4 y z' u w' _ I4 r2 r4 q4) fun d' s5 ⟨z2,H5,I5,r5,k2,e2,q5⟩=>?_));subst e2;cases r5;exact Kt ⟨H5,I5,q5⟩
def Em (K:Fg) (x:V) (H:Hp) (k:Bool):Prop :=
 match x with
 | .non=>k=false
 | .bl b=>k=b
 | .int i=>k=(i != 0)
 | .str y=>y.length<=sizeLine/\k=((y.length:Int) != 0)
 | .byt y=>y.size<=sizeLine/\k=((y.size:Int) != 0)
 | .ref p=>(∃ xs,SqL K H p xs/\k=!xs.isEmpty)\/(∃ xs,SqT K H p xs/\k=!xs.isEmpty)\/∃ kvs,H p=some (.dK kvs)/\k=!kvs.isEmpty
 | _=>False
theorem oS {κ:Type} {kvs:List (κ×V)} {vs:List (κ×Value)} (r:KV kvs vs):(!vs.isEmpty)=!kvs.isEmpty:=by
 cases r <;> rfl
theorem jh {xs:List V} {its:List Value} (r:Vals xs its):(!its.toArray.isEmpty)=!xs.isEmpty:=by
 cases r <;> simp
theorem ly:(sizeLine:Nat) < 2 ^ 63:=by rw [Ku];decide
theorem HV:Ik X (fun x H Q=>∃ k,Em X.K x H k/\Q k H):=by
 intro pins s σ H x v Q I rx h;obtain ⟨k,e,q⟩:=h;have hl:=ly;have hs:sizeLine=16777216:=Ku;cases x with
 | non =>
  cases rx;have e':k=false:=e;subst e';exact truthy_none ⟨H,I,q⟩
 | bl b =>
  cases rx;have e':k=b:=e;subst e';exact Kt ⟨H,I,q⟩
 | int i =>
  obtain ⟨t,rfl⟩:=rx;have e':k=(i != 0):=e;subst e';exact PySem.P.truthy_int ⟨H,I,q⟩
 | str y =>
  obtain ⟨t,rfl⟩:=rx;obtain ⟨hy,e'⟩:y.length<=sizeLine/\k=((y.length:Int) != 0):=e;subst e';exact PySem.P.truthy_str (by omega) ⟨H,I.tok _,q⟩
 | byt y =>
  obtain ⟨t,rfl⟩:=rx;obtain ⟨hy,e'⟩:y.size<=sizeLine/\k=((y.size:Int) != 0):=e;subst e';exact PySem.W.truthy_bytes (by omega) ⟨H,I.tok _,q⟩
 | ref p =>
  cases rx;have e':(∃ xs,SqL X.K H p xs/\k=!xs.isEmpty)\/(∃ xs,SqT X.K H p xs/\k=!xs.isEmpty)\/∃ kvs,H p=some (.dK kvs)/\k=!kvs.isEmpty:=e;rcases e' with ⟨xs,hx,e'⟩ | ⟨xs,hx,e'⟩ | ⟨kvs,hx,e'⟩
  ·subst e';obtain ⟨its,r,pl,hz⟩:=I.list hx;have hlen:=r.length;exact wpAny_truthy_list pl.isList (by simp only [JR];omega) ⟨H,I.tok _,by rw [jh r];exact q⟩
  ·subst e';obtain ⟨its,r,pl,hz⟩:=I.tuple hx;have hlen:=r.length;exact truthy_tuple pl (by simp only [JR];omega) ⟨H,I.tok _,by rw [jh r];exact q⟩
  ·subst e';obtain ⟨hz,hS,vs,r,m⟩:kvs.length<=sizeLine/\(p==sysModules)=false/\∃ vs,KV kvs vs/\s.heap.DictOf (aY X.prog X.w) p vs:=I.hok p _ hx;have hlen:kvs.length=vs.length:=Lx r;exact wpAny_truthy_dict hS m (by omega) ⟨H,I.tok _,by rw [oS r];exact q⟩
 | _=>exact (show False from e).elim
theorem pH:OpR X (binaryOp .Add) (fun x y H Q=>∃ i j,x=.str i/\y=.str j/\i.length+j.length<=sizeLine/\Q (.str (i++j)) H):=by
 intro pins s σ H x y v u Q I rx ry h;obtain ⟨i,j,rfl,rfl,hz,q⟩:=h;obtain ⟨t,rfl⟩:=rx;obtain ⟨t',rfl⟩:=ry;exact add_str (fun t' tk=>⟨.str (i++j),H,I.tok _,⟨_,rfl⟩,q⟩) hz
theorem vals1 {x:V} {us:List Value} (r:Vals [x] us):∃ u,us=[u]/\RelV x u:=by
 cases r with
 | cons r1 r2=>cases r2;exact ⟨_,rfl,r1⟩
theorem vals2 {x y:V} {us:List Value} (r:Vals [x,y] us):∃ u w',us=[u,w']/\RelV x u/\RelV y w':=by
 cases r with
 | cons r1 r2 =>
  cases r2 with
  | cons r3 r4=>cases r4;exact ⟨_,_,rfl,r1,r3⟩
theorem vG:aJ X (.builtin "abs") (fun xs H Q=>∃ i,xs=[.int i]/\Q (.int (if i < 0 then -i else i)) H):=by
 intro pins s σ H xs us Q I r h;obtain ⟨i,rfl,q⟩:=h;obtain ⟨u,rfl,t,rfl⟩:=vals1 r;exact call_abs_int fun u tk=>⟨.int (if i < 0 then -i else i),H,I.tok _,⟨_,rfl⟩,q⟩
theorem uc:aJ X (.type "int") (fun xs H Q=>(∃ i,xs=[.int i]/\Q (.int i) H)\/∃ k,xs=[.bl k]/\Q (.int (if k then 1 else 0)) H):=by
 intro pins s σ H xs us Q I r h;rcases h with ⟨i,rfl,q⟩ | ⟨k,rfl,q⟩
 ·obtain ⟨u,rfl,t,rfl⟩:=vals1 r;exact call_int_int ⟨.int i,H,I,⟨_,rfl⟩,q⟩
 ·obtain ⟨u,rfl,r1⟩:=vals1 r;cases r1;exact call_int_bool ⟨.int (if k then 1 else 0),H,I.tok _,⟨_,rfl⟩,q⟩
def HS (K:Fg) (x:V) (H:Hp) (n:Nat):Prop :=
 match x with
 | .str y=>y.length<=sizeLine/\n=y.length
 | .byt y=>y.size<=sizeLine/\n=y.size
 | .ref p=>(∃ xs,SqL K H p xs/\n=xs.length)\/∃ xs,SqT K H p xs/\n=xs.length
 | _=>False
theorem vo:aJ X (.builtin "len") (fun xs H Q=>∃ x n,xs=[x]/\HS X.K x H n/\Q (.int n) H):=by
 intro pins s σ H xs us Q I r h;obtain ⟨x,n,rfl,e,q⟩:=h;obtain ⟨u,rfl,rx⟩:=vals1 r;have hl:=ly;have hs:sizeLine=16777216:=Ku;cases x with
 | str y =>
  obtain ⟨t,rfl⟩:=rx;obtain ⟨hy,e'⟩:y.length<=sizeLine/\n=y.length:=e;subst e';exact len_str (by omega) ⟨.int _,H,I.tok _,⟨_,rfl⟩,q⟩
 | byt y =>
  obtain ⟨t,rfl⟩:=rx;obtain ⟨hy,e'⟩:y.size<=sizeLine/\n=y.size:=e;subst e';exact PySem.W.len_bytes (by omega) ⟨.int _,H,I.tok _,⟨_,rfl⟩,q⟩
 | ref p =>
  cases rx;have e':(∃ xs,SqL X.K H p xs/\n=xs.length)\/∃ xs,SqT X.K H p xs/\n=xs.length:=e;rcases e' with ⟨xs,hx,e'⟩ | ⟨xs,hx,e'⟩
  ·subst e';obtain ⟨its,r',pl,hz⟩:=I.list hx;have hlen:=r'.length;exact Calls.call_len_list pl.isList (by simp only [JR];omega) ⟨.int xs.length,H,I.tok _,⟨_,by simp only [JR];rw [hlen]⟩,q⟩
  ·subst e';obtain ⟨its,r',pl,hz⟩:=I.tuple hx;have hlen:=r'.length;exact len_tuple pl (by simp only [JR];omega) ⟨.int xs.length,H,I.tok _,⟨_,by simp only [JR];rw [hlen]⟩,q⟩
 | _=>exact (show False from e).elim
end
end L2
namespace L2
open PySem PySem.Spec PyProof.Rows
structure cq (k:Nat) (A:Around):Prop where
 hd:A.handled=none
 dp:A.depth+3*k+5 < recursionLimit
 un:A.units+16*k+200 < cLine
 gd:A.guards=some []
theorem cq.mono {j k:Nat} {A:Around} (r:cq k A) (h:j<=k):cq j A:=⟨r.hd,by have:=r.dp;omega,by have:=r.un;omega,r.gd⟩
theorem cq.deeper {k:Nat} {A:Around} (r:cq (k+1) A) (env:Env):cq k (A.deeper env) :=
 ⟨r.hd,by have:=r.dp;show A.depth+1+3*k+5 < _;omega,by have:=r.un;show A.units+3+16*k+200 < _;omega,r.gd⟩
theorem cq.in1 {k:Nat} {A:Around} (r:cq (k+1) A):cq k A.in1 :=
 ⟨r.hd,by have:=r.dp;show A.depth+3*k+5 < _;omega,by have:=r.un;show A.units+1+16*k+200 < _;omega,r.gd⟩
theorem cq.depth {k:Nat} {A:Around} (r:cq k A):A.depth < recursionLimit:=by have:=r.dp;omega
theorem cq.units {k:Nat} {A:Around} (r:cq k A):A.units+64 < cLine:=by have:=r.un;omega
theorem cq.sh {k:Nat} {A:Around} (r:cq k A):A.units < cLine:=by have:=r.un;omega
def gp:TA:=fun _ H Q=>Q [] H
def aR (ta:TE) (tr:TA):TA:=fun σ H Q=>ta σ H fun x H1=>tr σ H1 fun xs H2=>Q (x :: xs) H2
section
variable {X:Cx} {e:Expr} {es:List Expr} {te:TE} {t:TA} {pos:Pos}
theorem qd:PA X [] gp:=fun _ _ _ _ H Q I h=>Calls.spliced_nil ⟨[],H,I,.nil,h⟩
theorem jC (ha:PE X e te) (hr:PA X es t) (hs:starEach (e :: es) X.env=(false,eval e X.env) :: starEach es X.env:=by rfl):PA X (e :: es) (aR te t):=by
 intro pos pins s σ H Q I h;rw [hs];show wpAny _ _ (spliced ((false,eval e X.env) :: backTo pos (starEach es X.env))) _ _ s;refine Calls.spliced_cons (thn (ha pins s σ H _ I h) fun u s1 ⟨x,H1,I1,r1,q1⟩=>?_);exact thn (hr pos pins s1 σ H1 _ I1 q1) fun us s2 ⟨xs,H2,I2,r2,q2⟩=>⟨x :: xs,H2,I2,.cons r1 r2,q2⟩
def DU (t:TA):TE:=fun σ H Q=>t σ H fun xs H1=>xs.length<=sizeLine/\∀ p,H1 p=none->Q (.ref p) (upd H1 p (.tup xs))
def yL (t:TA):TE:=fun σ H Q=>t σ H fun xs H1=>xs.length<=sizeLine/\∀ p,H1 p=none->Q (.ref p) (upd H1 p (.lst xs))
theorem AU {x1} (h:PA X es t):PE X (.Tuple es x1 pos) (DU t):=by
 intro pins s σ H Q I hq;refine wpAny_Tuple_spliced (thn (h pos pins s σ H _ I hq) fun us s1 ⟨xs,H1,I1,r,z,q⟩=>⟨by rw [<- r.length];exact z,?_⟩);have hf:H1 s1.heap.objs.size=none:=I1.hok.fresh (JH _);refine ⟨.ref s1.heap.objs.size,upd H1 s1.heap.objs.size (.tup xs),I1.laid (t':=s1.toks) (fun b u e=>JN _ e) (JH _) ?_,rfl,q _ hf⟩;exact ⟨z,us,r,⟨_,Kc _ rfl,rfl,_,rfl⟩⟩
theorem Be (h:PA X es t):PE X (.List es pos) (yL t):=by
 intro pins s σ H Q I hq;refine wpAny_List_spliced (thn (h pos pins s σ H _ I hq) fun us s1 ⟨xs,H1,I1,r,z,q⟩=>⟨by rw [<- r.length];exact z,?_⟩);have hf:H1 s1.heap.objs.size=none:=I1.hok.fresh (JH _);refine ⟨.ref s1.heap.objs.size,upd H1 s1.heap.objs.size (.lst xs),I1.laid (t':=s1.toks) (fun b u e=>JN _ e) (JH _) ?_,rfl,q _ hf⟩;exact ⟨z,us,0,r,Kc _ rfl⟩
end
abbrev Sp:=List V->Hp->VK->XK->Prop
abbrev CXT:=List Env->Hp->Shared->XK->Value->Shared->Prop
structure DW (P:Program) (w:World) (K:Fg) (mg:Str->Option Value) (base:Heap) (A:Around) (outer:List Env) (s:Shared) (H:Hp):Prop where
 frames:A.frames=some outer
 mod:Mod K mg base
 bs:∀ b o,base.get? b=some o->s.heap.get? b=some o/\H b=none
 bsz:base.objs.size<=s.heap.objs.size
 l8:s.heap.FunFrames base outer
 frf:∀ b∈frs outer,H b=none
 hok:HOk P w H s.heap
 bare:AllBare s.gens
def CE (outer:List Env) (P:Program) (w:World) (H:Hp) (s:Shared) (Q:VK) (u:Value) (s':Shared):Prop :=
 ∃ v H',s'.os=s.os/\AllBare s'.gens/\Un (frs outer) [] H H' s.heap s'.heap/\HOk P w H' s'.heap/\RelV v u/\Q v H'
def CR (CX:CXT) (outer:List Env) (P:Program) (w:World) (H:Hp) (s:Shared) (Q:VK) (E:XK) (r:Result) (s':Shared):Prop :=
 match r with
 | .ok (.ret u)=>CE outer P w H s Q u s'
 | .ok _=>False
 | .error e=>CX outer H s E e s'
structure br (P:Program) (w:World) (K:Fg) (mg:Str->Option Value) (base:Heap) (CX:CXT) (k:Nat) (f:Addr) (fd:FuncData) (ps:List Str) (sp:Sp):Prop where
 len:∀ vs H Q E,sp vs H Q E->vs.length=ps.length
 run:∀ (A:Around) (outer:List Env) (s:Shared) (H:Hp) (args:Args) (us:List Value) (vs:List V) (Q:VK) (E:XK),cq k A->DW P w K mg base A outer s H->BindsTo s fd args (ps.zip us)->Vals vs us->sp vs H Q E ->
  codeAny (model P w) A (.call (.ref f) args) (CR CX outer P w H s Q E) s
section
variable {X:Cx} {pins:List (Addr×Obj)} {σ:St} {H:Hp} {s s':Shared}
theorem Inv.DV (I:Inv X pins σ H s):DW X.prog X.w X.K X.mg X.base X.A X.stack s H :=
 ⟨I.ok.frames,I.ok.mod,I.bs,Ka I.ok.bsz I.sz,I.stack,I.jy,I.hok,I.bare⟩
theorem Inv.after {Q:VK} {u:Value} (I:Inv X pins σ H s) (h:CE X.stack X.prog X.w H s Q u s'):EP X pins σ Q u s':=by
 obtain ⟨v,H',os,bare,un,hok,r,q⟩:=h;obtain ⟨hh,g,d,t,os'⟩:=s';obtain rfl:os'=s.os:=os;exact ⟨v,H',I.call (h':=hh) (g':=g) (d':=d) (t':=t) (ch:=[]) un hok bare (fun b z=>absurd z (by simp)),r,q⟩
end
def j5 (sp:Sp) (dvs:List V) (E:XK) (t:TA):TE:=fun σ H Q=>t σ H fun vs H1=>sp (vs++dvs) H1 Q E
def Binds (K:Fg) (fd:FuncData) (ps:List Str) (ds:List Value):Prop :=
 ∀ (s:Shared) (us:List Value),K.In s.heap->(us++ds).length=ps.length->BindsTo s fd ⟨us,[]⟩ (ps.zip (us++ds))
theorem Binds.all {K:Fg} {fd:FuncData} {ps:List Str} (h:∀ us:List Value,us.length=ps.length->bindArgs fd ⟨us,[]⟩=pure (ps.zip us)):Binds K fd ps []:=fun s us _ hl=>by
 rw [Kj] at hl ⊢;exact .of_eq (h us hl)
def Passes (CX:CXT) (X:Cx) (E:XK):Prop:=∀ (pins:List (Addr×Obj)) (σ:St) (H:Hp) (s:Shared) (e:Value) (s':Shared),Inv X pins σ H s->CX X.stack H s E e s'->X.xe e s'
section
variable {X:Cx} {CX:CXT} {k:Nat} {f C:Addr} {fd:FuncData} {ps:List Str} {sp:Sp} {dvs:List V} {ds:List Value} {E:XK} {x m:Str} {p pos apos:Pos} {e o:Expr} {es:List Expr} {ta:TE} {t:TA}
theorem v7 {pins:List (Addr×Obj)} {σ:St} {H:Hp} {s:Shared} {Q:VK} {us:List Value} {vs:List V} (F:br X.prog X.w X.K X.mg X.base CX k f fd ps sp) (hr:cq k X.A) (hb:Binds X.K fd ps ds) (hd:Vals dvs ds) (hx:Passes CX X E)
  (I:Inv X pins σ H s) (r:Vals vs us) (h:sp (vs++dvs) H Q E):wpAny (model X.prog X.w) X.A (call (.ref f) us) (EP X pins σ Q) X.xe s:=by
 have r2:Vals (vs++dvs) (us++ds):=r.append hd;have hl:(us++ds).length=ps.length:=by rw [<- r2.length];exact F.len _ _ _ _ h
 refine wpAny_call (codeAny_mono (F.run X.A X.stack s H ⟨us,[]⟩ (us++ds) (vs++dvs) Q E hr I.DV (hb s us I.kIn hl) r2 h) fun r s' hq=>?_);cases r with
 | error e=>exact hx pins σ H s e s' I hq
 | ok fl =>
  cases fl with
  | ret u=>exact I.after hq
  | next=>exact False.elim hq
  | brk=>exact False.elim hq
  | cont=>exact False.elim hq
theorem yB (F:br X.prog X.w X.K X.mg X.base CX k f fd ps sp) (hr:cq k X.A) (hg:Gl X x) (hm:X.mg x=some (.ref f)) (hk:PySem.W.keepIn X.K (.ref f)=true) (hb:Binds X.K fd ps ds) (hd:Vals dvs ds) (hx:Passes CX X E)
  (ha:PA X (e :: es) t) (hdb:(x==("__debug__" : Str))=false:=by decide) (he:starEach (e :: es) X.env=(false,eval e X.env) :: starEach es X.env:=by rfl) (hpl:(backTo pos (starEach es X.env)).any (·.1)=false:=by rfl) :
  PE X (.Call (.Name x p) (e :: es) [] pos) (j5 sp dvs E t):=by
 intro pins s σ H Q I h;refine LU (jQ I hg hm ?_ hdb);refine PySem.W.callWith_K (h₀:=X.base) I.ok.mod.kin hk (thn (ha pos pins s σ H _ I h) fun us s1 ⟨vs,H1,I1,r,q⟩=>⟨I1.kIn,?_⟩) he hpl;exact v7 F hr hb hd hx I1 r q
end
def PK (X:Cx) (kws:List Keyword) (t:TA):Prop :=
 ∀ (pos:Pos) (pins:List (Addr×Obj)) (s:Shared) (σ:St) (H:Hp) (Q:List V->Hp->Prop),Inv X pins σ H s->t σ H Q->wpAny (model X.prog X.w) X.A (evalAll ((backToKw pos (keywordEach kws X.env)).map (·.2))) (AP X pins σ Q) X.xe s
section
variable {X:Cx} {CX:CXT} {k:Nat} {f C:Addr} {fd:FuncData} {ps ks:List Str} {sp:Sp} {E:XK} {x m:Str} {p pos apos kpos:Pos} {e o:Expr} {es:List Expr} {kws:List Keyword} {te ta:TE} {t tk:TA} {nm:Option Str}
theorem Bi:PK X [] gp:=fun _ _ _ _ H Q I h=>wpAny_evalAll_nil ⟨[],H,I,.nil,h⟩
theorem yh (ha:PE X e te) (hr:PK X kws t):PK X (⟨nm,e,kpos⟩ :: kws) (aR te t):=by
 intro pos pins s σ H Q I h;show wpAny _ _ (evalAll ((do let v<-eval e X.env;standAt pos;pure v) :: (backToKw pos (keywordEach kws X.env)).map (·.2))) _ _ s;refine wpAny_evalAll_cons (Jp (thn (ha pins s σ H _ I h) fun u s1 ⟨x,H1,I1,r1,q1⟩=>Jp (wpAny_standAt (Jw ?_))));exact thn (hr pos pins s1 σ H1 _ I1 q1) fun us s2 ⟨xs,H2,I2,r2,q2⟩=>⟨x :: xs,H2,I2,.cons r1 r2,q2⟩
variable {g:List Value->List Value->List Value} {gV:List V->List V->List V}
end
structure ag (N P:List Str) (sc:Scope):Prop where
 kind:sc.kind=.function
 co:sc.isCoroutine=false
 gen:sc.isGenerator=false
 nd:N.Nodup
 pre:N.take P.length=P
 par:∀ x∈P,sc.names.lookup x=some .local\/sc.names.lookup x=some .cell
 Bf:∀ y∈sc.names,y.2≠.free
theorem kb {kindOf:Str->Option NameKind} {x:Str}:∀ {binds:List (Str×Value)} {m:Str->Option Value},(∀ v,(x,v) ∉ binds)->bindL kindOf binds m x=m x
 | [],_,_=>rfl
 | (n,v) :: r,m,h=>by
  unfold bindL;rw [kb fun w hw=>h w (JJ _ hw)];split
  ·have:x≠n:=by rintro rfl;exact h v Jy
   simp [this]
  ·rfl
theorem kz {kindOf:Str->Option NameKind} {x:Str}:∀ {binds:List (Str×Value)} {m:Str->Option Value},(∀ v,(x,v) ∉ binds)->bindC kindOf binds m x=m x
 | [],_,_=>rfl
 | (n,v) :: r,m,h=>by
  unfold bindC;rw [kz fun w hw=>h w (JJ _ hw)];split
  ·rfl
  ·have:x≠n:=by rintro rfl;exact h v Jy
   simp [this]
theorem kB {kindOf:Str->Option NameKind} {x:Str} {v:Value}:∀ {P:List Str} {vs:List Value} {i:Nat} {m:Str->Option Value},P.Nodup->P[i]?=some x->vs[i]?=some v->kindOf x=some .local ->
  bindL kindOf (P.zip vs) m x=some v
 | [],_,_,_,_,h,_,_=>by simp at h
 | _ :: _,[],_,_,_,_,h,_=>by simp at h
 | p :: P,w :: vs,0,m,nd,h1,h2,hk=>by
  simp at h1 h2;subst h1;subst h2;show bindL kindOf ((p,w) :: P.zip vs) m p=_;unfold bindL;rw [kb fun v hv=>(KC.mp nd).1 (List.of_mem_zip hv).1,JB hk];simp
 | p :: P,w :: vs,i+1,m,nd,h1,h2,hk=>by
  show bindL kindOf ((p,w) :: P.zip vs) m x=_;unfold bindL;exact kB (i:=i) (KC.mp nd).2 (by simpa using h1) (by simpa using h2) hk
theorem kW {kindOf:Str->Option NameKind} {x:Str} {v:Value}:∀ {P:List Str} {vs:List Value} {i:Nat} {m:Str->Option Value},P.Nodup->P[i]?=some x->vs[i]?=some v->kindOf x≠some .local ->
  bindC kindOf (P.zip vs) m x=some v
 | [],_,_,_,_,h,_,_=>by simp at h
 | _ :: _,[],_,_,_,_,h,_=>by simp at h
 | p :: P,w :: vs,0,m,nd,h1,h2,hk=>by
  simp at h1 h2;subst h1;subst h2;show bindC kindOf ((p,w) :: P.zip vs) m p=_;unfold bindC;rw [kz fun v hv=>(KC.mp nd).1 (List.of_mem_zip hv).1,Jz hk];simp
 | p :: P,w :: vs,i+1,m,nd,h1,h2,hk=>by
  show bindC kindOf ((p,w) :: P.zip vs) m x=_;unfold bindC;exact kW (i:=i) (KC.mp nd).2 (by simpa using h1) (by simpa using h2) hk
noncomputable def start (N:List Str) (vs:List V):St:=vs.map some++List.replicate (N.length - vs.length) none
noncomputable def md (CX:CXT) (P:Program) (w:World) (K:Fg) (mg:Str->Option Value) (base:Heap) (N:List Str) (qual:Str) (scope:Scope) (f:Addr) (cd:Value) (A:Around) (outer:List Env) (s:Shared) (H:Hp) (E:XK):Cx where
 prog:=P
 w:=w
 K:=K
 mg:=mg
 base:=base
 A:=A.deeper (envOfC qual scope s.heap.objs.size f cd)
 N:=N
 s₀:=s
 H₀:=H
 env:=envOfC qual scope s.heap.objs.size f cd
 outer:=outer
 stack:=envOfC qual scope s.heap.objs.size f cd :: outer
 ex:=[]
 calm:=true
 fn:=fun _=>true
 pn:=[]
 xe:=fun e s'=>wpAny (model P w) (A.deeper (envOfC qual scope s.heap.objs.size f cd)) (leaving (envOfC qual scope s.heap.objs.size f cd) e) (fun _ s''=>CX outer H s E e s'') (fun e' s''=>CX outer H s E e' s'') s'
theorem ot {sc:Scope} {n:Nat} {x:Str} (h:sc.names.lookup x=some .cell):∃ c,(cellsFrom n sc.names []).lookup x=some c:=by
 have q:=PySem.W.cellsFrom_some sc.names n [] (.inl h);exact Option.isSome_iff_exists.mp q
theorem qK {CX:CXT} {P:Program} {w:World} {K:Fg} {mg:Str->Option Value} {base:Heap} {N ps:List Str} {qual:Str} {scope:Scope} {f:Addr} {cd:Value} {A:Around} {outer:List Env} {s s1:Shared} {H:Hp} {E:XK} {us:List Value} {vs:List V}
  (S:ag N ps scope) (hd:A.handled=none) (e0:DW P w K mg base A outer s H) (hl:vs.length=ps.length) (r:Vals vs us)
  (x:InCallC s s.heap.objs.size (bindL (envOfC qual scope s.heap.objs.size f cd).kindOf (ps.zip us) fun _=>none) (cellsFrom (s.heap.objs.size+1) scope.names []) (bindC (envOfC qual scope s.heap.objs.size f cd).kindOf (ps.zip us) fun _=>none) s1) :
  Inv (md CX P w K mg base N qual scope f cd A outer s H E) [] (start N vs) H s1:=by
 have hpl:ps.length<=N.length:=by have:=congrArg List.length S.pre;rw [Kp] at this;omega
 obtain ⟨h1,tk,rfl,hk⟩:=x.done;have noA:∀ b:Addr,b ∉ (md CX P w K mg base N qual scope f cd A outer s H E).ex:=fun b z=>absurd (show b∈([]:List Addr) from z) (by simp)
 refine ⟨⟨e0.mod,S.kind,rfl,rfl,JH _,fun y z c h1 h2=>?_,fun y hy=>?_,fun y c _ h=>?_,fun _=>hd,Around.frames_deeper e0.frames,.inr ⟨rfl,rfl⟩,fun b z=>absurd z (noA b),e0.bs,e0.bsz,fun b _ _=>noA b,fun b z=>absurd z (noA b),e0.l8,e0.frf⟩,
  rfl,e0.bare,Un.kept hk,⟨_,x.toInCall.ns,fun i y v h1 h2 h3=>?_⟩,fun y c h=>⟨_,x.cell y c h⟩,e0.hok.fresh (JH _),fun y c h=>?_,fun p hp=>absurd (show p∈([]:List (Addr×Obj)) from hp) (by simp),e0.hok.kept hk,?_⟩
 ·exact name_of_addr x.apart (Lv h1) (Lv h2)
 ·have hy:scope.names.lookup y=some .cell\/scope.names.lookup y=some .free:=hy;rcases hy with hy | hy
  ·exact ot hy
  ·exact absurd rfl (S.Bf _ (Lv hy))
 ·exact Ma (x.above y c (Lv h))
 ·have hi:i < vs.length:=by
   unfold start at h2;by_cases hi:i < vs.length
   ·exact hi
   ·rw [Jv (by simpa using hi)] at h2;rw [List.getElem?_replicate] at h2;split at h2 <;> cases h2
  have ha:vs[i]?=some v:=by
   unfold start at h2;rw [JM (by simpa using hi),JU] at h2;cases e:vs[i]? with
   | none=>rw [e] at h2;cases h2
   | some a=>rw [e] at h2;cases h2;rfl
  obtain ⟨u,hu,rv⟩:=r.get ha;have hp:ps[i]?=some y:=by
   rw [<- S.pre,List.getElem?_take_of_lt (by omega)];exact h1
  have ndP:ps.Nodup:=by rw [<- S.pre];exact S.nd.sublist (List.take_sublist _ _)
  refine ⟨u,rv,?_⟩;rcases S.par y (J5 hp) with k | k
  ·exact .inl ⟨k,kB ndP hp hu k⟩
  ·obtain ⟨c,e⟩:=ot (n:=s.heap.objs.size+1) k;refine .inr ⟨.inl k,c,e,?_⟩;have q:=x.cell y c e;rw [kW ndP hp hu (by show scope.names.lookup y≠_;rw [k];decide)] at q;exact q
 ·exact e0.hok.fresh (Ma (x.above y c (Lv h)))
 ·unfold start;show _=N.length;rw [Jr,Jt,Mf];omega
theorem C7 {CX:CXT} {P:Program} {w:World} {K:Fg} {mg:Str->Option Value} {base:Heap} {k:Nat} {f:Addr} {name qual:Str} {params:Arguments} {body:List Stmt} {scope:Scope} {dV kV doc pm cdv ct oc:Value} {an od:Option Addr}
  {osl:Array (Option Value)} {N ps:List Str} {sp:Sp} (lk:K.lookup f=some ⟨oc,od,.func (PySem.W.fnOf name qual params body scope dV kV doc pm an cdv ct),osl⟩) (hcd:PySem.W.codeIn K cdv qual=true) (S:ag N ps scope)
  (len:∀ vs H Q E,sp vs H Q E->vs.length=ps.length)
  (hbody:∀ (A:Around) (outer:List Env) (s:Shared) (H:Hp) (vs:List V) (Q:VK) (E:XK),cq k (A.deeper (envOfC qual scope s.heap.objs.size f cdv))->sp vs H Q E ->
   ∃ t,PSs (md CX P w K mg base N qual scope f cdv A outer s H E) body t/\t { nx:=fun _ H'=>Q .non H',rt:=Q } (start N vs) H) :
  br P w K mg base CX (k+1) f (PySem.W.fnOf name qual params body scope dV kV doc pm an cdv ct) ps sp:=by
 refine ⟨len,fun A outer s H args us vs Q E hr e0 hb r hsp=>?_⟩;have hl:=len _ _ _ _ hsp;have KX:K.In s.heap:=e0.mod.kin.keeps fun b o e=>(e0.bs b o e).1;have lim:s.heap.NoLimit:=e0.mod.nolimit.keeps fun b o e=>(e0.bs b o e).1;have hkind:∀ y∈ps.zip us,scope.names.lookup y.1=some .local\/(scope.names.lookup y.1=some .cell/\((cellsFrom (s.heap.objs.size+1) scope.names []).lookup y.1).isSome=true):=fun ⟨n,v⟩ hy=>by
  rcases S.par n (List.of_mem_zip hy).1 with q | q
  ·exact .inl q
  ·exact .inr ⟨q,PySem.W.cellsFrom_some _ _ _ (.inl q)⟩
 refine codeAny_call_function hr.depth (KX _ _ lk) rfl S.co S.gen rfl (PySem.W.codeRec_of KX hcd) (hb _ _ _ _ ?_);refine wpAny_newFunctionEnv_cells S.kind hkind fun env he s1 x=>?_;subst he;refine ⟨lim.keeps x.toInCall.keep,codeAny_func ?_⟩;obtain ⟨t,ht,hq⟩:=hbody A outer s H vs Q E (hr.deeper _) hsp;have I:Inv (md CX P w K mg base N qual scope f cdv A outer s H E) [] (start N vs) H s1:=qK S hr.hd e0 hl r x;refine Ke (ht [] s1 (start N vs) H _ I hq) (fun fl s' hs=>?_) fun e s' hs=>hs;have fin:∀ {σ':St} {H':Hp} {v:V} {u:Value},Inv (md CX P w K mg base N qual scope f cdv A outer s H E) [] σ' H' s'->RelV v u->Q v H'->CE outer P w H s Q u s' :=
  fun {σ' H' v u} J rv q=>⟨v,H',J.os,J.bare,J.base,J.hok,rv,q⟩
 cases fl with
 | ret u =>
  obtain ⟨v,σ',H',J,rv,q⟩:=hs;exact fin J rv q
 | next =>
  obtain ⟨σ',H',J,q⟩:=hs;exact fin (v:=V.non) (u:=Value.none) J rfl q
 | brk =>
  obtain ⟨_,_,_,q⟩:=hs;exact False.elim q
 | cont =>
  obtain ⟨_,_,_,q⟩:=hs;exact False.elim q
end L2
namespace L2
open PySem PySem.Spec PyProof.Rows
section
variable {X:Cx} {x:Str} {p pos:Pos} {e:Expr} {es:List Expr} {t:TA} {id T:String} {r:List V->Hp->VK->Prop}
def tCB (r:List V->Hp->VK->Prop) (t:TA):TE:=fun σ H Q=>t σ H fun vs H1=>r vs H1 Q
theorem n6 (hc:aJ X (.builtin id) r) (hg:Gl X x) (hm:X.mg x=none) (hv:bootBuiltins x=some (.builtin id)) (ha:PA X (e :: es) t) (hn:x ≠ "__name__" := by decide) (hdb:(x==("__debug__" : Str))=false:=by decide)
  (he:starEach (e :: es) X.env=(false,eval e X.env) :: starEach es X.env:=by rfl) (hpl:(backTo pos (starEach es X.env)).any (·.1)=false:=by rfl):PE X (.Call (.Name x p) (e :: es) [] pos) (tCB r t):=by
 intro pins s σ H Q I h;refine LU (km I hg hm hv ?_ hn hdb);exact PyProof.Rows.callWith_builtin1 (thn (ha pos pins s σ H _ I h) fun us s1 ⟨vs,H1,I1,r1,q1⟩=>hc pins s1 σ H1 vs us Q I1 r1 q1) he hpl
theorem qf (hc:aJ X (.type T) r) (hg:Gl X x) (hm:X.mg x=none) (hv:bootBuiltins x=some (.type T)) (ha:PA X (e :: es) t) (hn:x ≠ "__name__" := by decide) (hdb:(x==("__debug__" : Str))=false:=by decide)
  (he:starEach (e :: es) X.env=(false,eval e X.env) :: starEach es X.env:=by rfl) (hpl:(backTo pos (starEach es X.env)).any (·.1)=false:=by rfl):PE X (.Call (.Name x p) (e :: es) [] pos) (tCB r t):=by
 intro pins s σ H Q I h;refine LU (km I hg hm hv ?_ hn hdb);exact PyProof.Rows.callWith_type1 (thn (ha pos pins s σ H _ I h) fun us s1 ⟨vs,H1,I1,r1,q1⟩=>hc pins s1 σ H1 vs us Q I1 r1 q1) he hpl
end
end L2
namespace HT
open PySem PyProof.Rows
section
variable {prog:Program} {w:World} {A:Around} {E:Value->Shared->Prop} {s:Shared}
theorem yj {t b:Addr} {vs ws:List Value} {Q:Value->Shared->Prop} (ht:IsTup s.heap t vs.toArray) (hb:IsTup s.heap b ws.toArray) (hv:vs≠[])
  (h1:ws=[]->Q (.ref t) s) (h2:ws≠[]->Q (.ref s.heap.objs.size) { s with heap:=s.heap.push { cls:=.type "tuple", data:=.seq (vs++ws).toArray } })
  (hsz:vs.length+ws.length<=sizeLine):wpAny (model prog w) A (binaryOp .Add (.ref t) (.ref b)) Q E s:=by
 obtain ⟨⟨cls,dd,data,sl⟩,ho,hc,n,hd⟩:=id ht;obtain ⟨⟨cls2,dd2,data2,sl2⟩,ho2,hc2,n2,hd2⟩:=id hb;simp only at hc hd hc2 hd2;subst hc hd hc2 hd2;have e:vs.toArray++ws.toArray=(vs++ws).toArray:=by simp
 by_cases hw:ws=[]
 ·exact concat_meets ⟨_,ho,rfl⟩ ⟨_,ho2,rfl⟩ noFill_tuple_add seq_tuple_add PySem.F.slot_tuple_add PySem.F.entry_tuple_add (PySem.F.args_tuple_add_2 _ _)
   (tuple_addW1 t b vs.toArray ws.toArray n n2 dd dd2 sl sl2 (by simpa using hv) (by simp [hw])) ⟨ho,ho2,h1 hw⟩
 ·refine concat_meets ⟨_,ho,rfl⟩ ⟨_,ho2,rfl⟩ noFill_tuple_add seq_tuple_add PySem.F.slot_tuple_add PySem.F.entry_tuple_add (PySem.F.args_tuple_add_2 _ _)
   (tuple_addW2 t b vs.toArray ws.toArray n n2 dd dd2 sl sl2 (by simpa using hv) (by simpa using hw) (by rw [JR,JR];exact hsz)) ⟨ho,ho2,?_⟩
  rw [e];exact h2 hw
noncomputable def sIx (n d:Nat):Option Int->Nat
 | none=>d
 | some v=>if v < 0 then (v+(n:Int)).toNat else min v.toNat n
theorem nH (n d:Nat) (hd:d<=n) (o:Option Int):sIx n d o<=n:=by
 cases o with
 | none=>exact hd
 | some v =>
  show (if v < 0 then (v+(n:Int)).toNat else min v.toNat n)<=n;by_cases hv:v < 0
  ·rw [JB hv];omega
  ·rw [Jz hv];exact Nat.min_le_right _ _
theorem qT (v:Int) (n d:Nat):(if v < 0 then max (v+(n:Int)) 0 else min v (n:Int))=((sIx n d (some v):Nat):Int):=by
 show (if v < 0 then max (v+(n:Int)) 0 else min v (n:Int))=(((if v < 0 then (v+(n:Int)).toNat else min v.toNat n):Nat):Int);by_cases hv:v < 0
 ·simp only [JB hv];omega
 ·simp only [Jz hv];omega
theorem oM (lo hi:Option Int) (n:Nat):Builtin.Slice.sliceAdjust lo hi 1 (n:Int)=(((sIx n 0 lo:Nat):Int),((sIx n n hi:Nat):Int)):=by
 have h1:¬((1:Int) < 0):=by omega
 unfold Builtin.Slice.sliceAdjust;simp only [h1,Lh];refine Prod.ext ?_ ?_
 ·cases lo with
  | none=>rfl
  | some v=>exact qT v n 0
 ·cases hi with
  | none=>rfl
  | some v=>exact qT v n n
theorem pK (i j:Nat):Builtin.Slice.slicePlaces (i:Int) (j:Int) 1=j - i:=by
 unfold Builtin.Slice.slicePlaces;have h1:(1:Int) > 0:=by omega
 simp only [h1,LY,Int.ediv_one];split <;> omega
theorem jg {v:Value} {o:Option Int} {Q:Option Int->Shared->Prop} (p:IsPart v o) (h:Q o s):wpAny (model prog w) A (Builtin.Slice.slicePartIndex v) Q E s:=by
 cases p with
 | none=>exact slicePart_none h
 | int i t=>exact slicePart_int h
theorem fQ {sl:Addr} {vl vu:Value} {lo hi:Option Int} {n:Nat} {Q:Int×Int×Nat->Shared->Prop} (hs:s.heap.IsSliceOf sl vl vu .none) (pl:IsPart vl lo) (pu:IsPart vu hi)
  (h:Q (((sIx n 0 lo:Nat):Int),1,sIx n n hi - sIx n 0 lo) s):wpAny (model prog w) A (Builtin.Slice.sliceApplied (.ref sl) (pure (n:Int))) Q E s:=by
 obtain ⟨os,hos,hcs,hds⟩:=id hs;unfold Builtin.Slice.sliceApplied Builtin.Slice.sliceFields;refine Jp (Jp (wpAny_field hos hds (x:=vl) rfl (Jp (wpAny_field hos hds (x:=vu) rfl (Jp (wpAny_field hos hds (x:=.none) rfl (Jw ?_)))))));refine Jp (slicePart_none ?_);show wpAny _ _ (if ((1:Int)==0)=true then _ else _) _ _ s;rw [Jz (by decide)];refine Jp (jg pl (Jp (jg pu (Jp (Jw ?_)))));show wpAny _ _ (match Builtin.Slice.sliceAdjust lo hi 1 (n:Int) with | (lo,hi)=>pure (lo,(1:Int),Builtin.Slice.slicePlaces lo hi 1)) _ _ s;rw [oM lo hi n];show wpAny _ _ (pure (((sIx n 0 lo:Nat):Int),(1:Int),Builtin.Slice.slicePlaces ((sIx n 0 lo:Nat):Int) ((sIx n n hi:Nat):Int) 1)) _ _ s;rw [pK];exact Jw h
theorem vz (xs:Array Value) (i k:Nat):((List.range k).filterMap fun (m:Nat)=>xs[((i:Int)+(m:Int)*1).toNat]?).toArray=((xs.toList.drop i).take k).toArray:=by
 have e:(fun (m:Nat)=>xs[((i:Int)+(m:Int)*1).toNat]?)=fun m=>xs[i+m]?:=by
  funext m;have:((i:Int)+(m:Int)*1).toNat=i+m:=by omega
  rw [this]
 rw [e];have:=pick_run xs i k;rw [List.filterMap_map] at this;have e2:((fun x=>xs[x]?)∘fun x=>i+x)=fun m=>xs[i+m]?:=rfl;rw [e2] at this;rw [this]
theorem e8 {t sl:Addr} {items:Array Value} {vl vu:Value} {lo hi:Option Int} {Q:Value->Shared->Prop} (ht:IsTup s.heap t items) (hs:s.heap.IsSliceOf sl vl vu .none) (pl:IsPart vl lo) (pu:IsPart vu hi)
  (hw:¬(sIx items.size 0 lo=0/\sIx items.size items.size hi=items.size))
  (h:Q (.ref s.heap.objs.size) { s with heap:=s.heap.push { cls:=.type "tuple", data:=.seq ((items.toList.drop (sIx items.size 0 lo)).take (sIx items.size items.size hi - sIx items.size 0 lo)).toArray } })
  (hsz:items.size<=sizeLine):wpAny (model prog w) A (getItem (.ref t) (.ref sl)) Q E s:=by
 have htake:sizeOk (.seq ((items.toList.drop (sIx items.size 0 lo)).take (sIx items.size items.size hi - sIx items.size 0 lo)).toArray):=by
  show ((items.toList.drop (sIx items.size 0 lo)).take (sIx items.size items.size hi - sIx items.size 0 lo)).toArray.size<=sizeLine;rw [JR,Kp,K3,KG];omega
 have hj:sIx items.size items.size hi<=items.size:=nH _ _ (JH _) hi;obtain ⟨os,hos,hcs,hds⟩:=id hs;have hTs:s.TypeIs (.ref sl) "slice" := ⟨os,hos,hcs⟩;unfold getItem;try with_reducible refine KJ ?_
 first | refine Jp (Jw ?_) | skip
 refine Jp (wpAny_sequenceKey ht.typeIs (by decide) ?_)
 refine Jp (Ld (name:=Str.ofString "__getitem__") ht.typeIs PyProof.Rows.slot_tuple_getitem
  (K1 PyProof.Rows.slot_tuple_getitem ht.typeIs entry_tuple_getitem ?_ (args_tuple_getitem _ _)))
 show wpAny _ _ (Builtin.Tuple.tupleItemsOf (.ref t)>>=_) _ _ s;refine Jp (tupleItemsOf_ ht ?_);refine Jp (wpAny_typeOf hTs ?_);rw [JB (by decide)];refine Jp (fQ hs pl pu ?_);have hno:¬((((sIx items.size 0 lo:Nat):Int)==0&&(1:Int)==1&&(sIx items.size items.size hi - sIx items.size 0 lo)==items.size)=true):=by
  intro q;rw [Kl,Kl] at q;have q1:((sIx items.size 0 lo:Nat):Int)=0:=eq_of_beq q.1.1;have q2:sIx items.size items.size hi - sIx items.size 0 lo=items.size:=eq_of_beq q.2;exact hw ⟨by omega,by omega⟩
 show wpAny _ _ (if (((sIx items.size 0 lo:Nat):Int)==0&&(1:Int)==1&&(sIx items.size items.size hi - sIx items.size 0 lo)==items.size)=true then _ else _) _ _ s;rw [Jz hno,vz];first
  | exact Jp (m:=Builtin.Tuple.tupleExact _) (KU (Jw ⟨_,rfl,Jw h⟩) htake)
  | exact Jp (m:=Builtin.Tuple.tupleExact _) (KU (Jp (Jw (Jw ⟨_,rfl,Jw h⟩))) htake)
  | exact Jp (Jp (m:=Builtin.Tuple.tupleExact _) (KU (Jw (Jw ⟨_,rfl,Jw h⟩)) htake))
  | exact Jp (Jp (m:=Builtin.Tuple.tupleExact _) (KU (Jw ⟨_,rfl,Jw h⟩) htake))
end
end HT
namespace L2
open PySem PySem.Spec PyProof.Rows
abbrev TO:=St->Hp->(Option Int->Hp->Prop)->Prop
def PO (X:Cx) (e:Option Expr) (t:TO):Prop :=
 ∀ (pins:List (Addr×Obj)) (s:Shared) (σ:St) (H:Hp) (Q:Option Int->Hp->Prop),Inv X pins σ H s->t σ H Q ->
  wpAny (model X.prog X.w) X.A (evalPart e X.env) (fun u s'=>∃ o H',Inv X pins σ H' s'/\IsPart u o/\Q o H') X.xe s
def qc:TO:=fun _ H Q=>Q none H
def Du (t:TE):TO:=fun σ H Q=>t σ H fun x H1=>∃ i,x=.int i/\Q (some i) H1
section
variable {X:Cx} {e:Expr} {te:TE} {lo hi:Option Expr} {tl th:TO} {pos p2:Pos}
theorem yQ:PO X none qc:=by
 intro pins s σ H Q I h;rw [evalPart_none];exact Jw ⟨none,H,I,.none,h⟩
theorem yD (h:PE X e te):PO X (some e) (Du te):=by
 intro pins s σ H Q I hw;rw [evalPart_some];refine thn (h pins s σ H _ I hw) fun u s1 ⟨x,H1,I1,r1,q1⟩=>?_;obtain ⟨i,rfl,q⟩:=q1;obtain ⟨t,rfl⟩:=r1;exact ⟨some i,H1,I1,.int i t,q⟩
def SlR (X:Cx) (r:V->Option Int->Option Int->Hp->VK->Prop):Prop :=
 ∀ (pins:List (Addr×Obj)) (s:Shared) (σ:St) (H:Hp) (x:V) (v vl vu:Value) (lo hi:Option Int) (sl:Addr) (Q:VK),Inv X pins σ H s->RelV x v->s.heap.IsSliceOf sl vl vu .none->IsPart vl lo->IsPart vu hi->r x lo hi H Q ->
  ∃ T id,typeLookup (.type T) "__getitem__" = pure (some (.builtin id))/\s.TypeIs v T/\wpAny (model X.prog X.w) X.A (getItem v (.ref sl)) (EP X pins σ Q) X.xe s
theorem SlR.or {r r':V->Option Int->Option Int->Hp->VK->Prop} (h:SlR X r) (h':SlR X r'):SlR X (fun x lo hi H Q=>r x lo hi H Q\/r' x lo hi H Q):=by
 intro pins s σ H x v vl vu lo hi sl Q I rx hs pl pu q;rcases q with q | q
 ·exact h pins s σ H x v vl vu lo hi sl Q I rx hs pl pu q
 ·exact h' pins s σ H x v vl vu lo hi sl Q I rx hs pl pu q
def tSl (r:V->Option Int->Option Int->Hp->VK->Prop) (te:TE) (tl th:TO):TE:=fun σ H Q=>te σ H fun x H1=>tl σ H1 fun l H2=>th σ H2 fun u H3=>r x l u H3 Q
theorem uU {r:V->Option Int->Option Int->Hp->VK->Prop} (hr:SlR X r) (he:PE X e te) (hl:PO X lo tl) (hu:PO X hi th):PE X (.Subscript e (.Slice lo hi none p2) pos) (tSl r te tl th):=by
 intro pins s σ H Q I h;refine Subscript_ (thn (he pins s σ H _ I h) fun v s1 ⟨x,H1,I1,r1,q1⟩=>?_);refine wpAny_Slice (thn (hl pins s1 σ H1 _ I1 q1) fun vl s2 ⟨l,H2,I2,pl,q2⟩=>thn (hu pins s2 σ H2 _ I2 q2) fun vu s3 ⟨u,H3,I3,pu,q3⟩=>?_);rw [evalPart_none];refine Jw ?_;have I4:Inv X pins σ H3 { s3 with heap:=s3.heap.push { cls:=.type "slice", data:=.fields #[vl,vu,.none] } }:=I3.kept (t':=s3.toks) fun b ob q=>JN _ q;obtain ⟨T,id,hT,ht,hg⟩:=hr pins { s3 with heap:=s3.heap.push { cls:=.type "slice", data:=.fields #[vl,vu,.none] } } σ H3 x v vl vu l u s3.heap.objs.size Q I4 r1 (Heap.IsSliceOf.new ..) pl pu q3;show wpAny (model X.prog X.w) X.A (subscriptTail e (.Slice lo hi none p2) v (.ref s3.heap.objs.size)) (EP X pins σ Q) X.xe { s3 with heap:=s3.heap.push { cls:=.type "slice", data:=.fields #[vl,vu,.none] } };exact tail_any (ops:=[.ref s3.heap.objs.size,v]) ht hT hg (by with_unfolding_all rfl)
noncomputable def um (xs:List V) (lo hi:Option Int):List V:=(xs.drop (HT.sIx xs.length 0 lo)).take (HT.sIx xs.length xs.length hi - HT.sIx xs.length 0 lo)
theorem iC (xs:List V) (lo hi:Option Int):(um xs lo hi).length<=xs.length:=by
 unfold um;rw [Kp,K3];omega
def Hl (K:Fg):V->Option Int->Option Int->Hp->VK->Prop:=fun x lo hi H Q=>∃ a xs,x=.ref a/\SqT K H a xs /\
 ¬(HT.sIx xs.length 0 lo=0/\HT.sIx xs.length xs.length hi=xs.length)/\∀ p,H p=none->Q (.ref p) (upd H p (.tup (um xs lo hi)))
theorem kg:SlR X (Hl X.K):=by
 intro pins s σ H x v vl vu lo hi sl Q I rx hs pl pu h;obtain ⟨a,xs,rfl,hx,hw,q⟩:=h;cases rx;obtain ⟨its,r,ht,hz⟩:=I.tuple hx;have hlen:its.toArray.size=xs.length:=by rw [JR];exact r.length.symm
 refine ⟨"tuple", _,PyProof.Rows.slot_tuple_getitem.lookup,ht.typeIs,?_⟩;refine HT.e8 ht hs pl pu (by rw [hlen];exact hw) ?_ (by rw [hlen];exact hz);rw [hlen];refine ⟨.ref s.heap.objs.size,_,I.laid (t':=s.toks) (o:=.tup (um xs lo hi)) (fun b ob q=>JN _ q) (JH _) ?_,rfl,q _ (I.hok.fresh (JH _))⟩;exact ⟨Ka (iC xs lo hi) hz,_,(r.drop (HT.sIx xs.length 0 lo)).take (HT.sIx xs.length xs.length hi - HT.sIx xs.length 0 lo),IsTup.new _ _⟩
def C3 (K:Fg):R2:=fun x y H Q=>∃ a b xs ys,x=.ref a/\y=.ref b/\SqT K H a xs/\SqT K H b ys/\xs≠[]/\xs.length+ys.length<=sizeLine /\
 (ys=[]->Q (.ref a) H)/\(ys≠[]->∀ p,H p=none->Q (.ref p) (upd H p (.tup (xs++ys))))
theorem Vals.iF {xs:List V} {us:List Value} (r:Vals xs us):us=[]↔xs=[]:=by
 cases r with
 | nil=>simp
 | cons _ _=>simp
theorem xx:OpR X (binaryOp .Add) (C3 X.K):=by
 intro pins s σ H x y v u Q I rx ry h;obtain ⟨a,b,xs,ys,rfl,rfl,ha,hb,hx,hz,q1,q2⟩:=h;cases rx;cases ry;obtain ⟨its,r1,p1,_⟩:=I.tuple ha;obtain ⟨its2,r2,p2,_⟩:=I.tuple hb;refine HT.yj p1 p2 (fun z=>hx (r1.iF.mp z)) (fun z=>⟨.ref a,H,I,rfl,q1 (r2.iF.mp z)⟩) (fun z=>?_) (by rw [<- r1.length,<-r2.length];exact hz);refine ⟨.ref s.heap.objs.size,_,I.laid (t':=s.toks) (o:=.tup (xs++ys)) (fun b ob q=>JN _ q) (JH _) ?_,rfl,q2 (fun w=>z (r2.iF.mpr w)) _ (I.hok.fresh (JH _))⟩;exact ⟨by rw [Jr];exact hz,_,r1.append r2,IsTup.new _ _⟩
end
end L2
namespace L2
open PySem PySem.Spec PyProof.Rows
noncomputable def ixN (n:Nat) (i:Int):Option Nat:=if 0<=i then (if i < n then some i.toNat else none) else if -(n:Int)<=i then some (i+n).toNat else none
noncomputable def atI {α:Type} (xs:List α) (i:Int):Option α:=(ixN xs.length i).bind fun j=>xs[j]?
theorem xr {n:Nat} {i:Int} {j:Nat} (h:ixN n i=some j):seqIndex? i n=some j/\j < n/\-(n:Int)<=i/\i < n:=by
 unfold ixN at h;by_cases h0:0<=i
 ·rw [JB h0] at h;by_cases h1:i < n
  ·rw [JB h1] at h;have e:i.toNat=j:=Km h;exact ⟨by rw [seqIndex_of h0 h1,e],by omega,by omega,h1⟩
  ·rw [Jz h1] at h;cases h
 ·rw [Jz h0] at h;by_cases h1:-(n:Int)<=i
  ·rw [JB h1] at h;have e:(i+n).toNat=j:=Km h;exact ⟨by rw [seqIndex_neg (by omega) h1,e],by omega,h1,by omega⟩
  ·rw [Jz h1] at h;cases h
theorem mw {α:Type} {xs:List α} {i:Int} {v:α} (h:atI xs i=some v):∃ j,seqIndex? i xs.length=some j/\xs[j]?=some v/\j < xs.length/\-(xs.length:Int)<=i/\i < xs.length:=by
 unfold atI at h;cases e:ixN xs.length i with
 | none=>rw [e] at h;cases h
 | some j =>
  rw [e] at h;obtain ⟨h1,h2,h3,h4⟩:=xr e;exact ⟨j,h1,h,h2,h3,h4⟩
theorem iu {α:Type} {xs:List α} {j:Nat} {v:α} (h:xs[j]?=some v):atI xs (j:Int)=some v:=by
 have hj:j < xs.length:=(Js.mp h).1;have e:ixN xs.length (j:Int)=some j:=by
  unfold ixN;rw [JB (by omega),JB (by omega)];simp
 unfold atI;rw [e];exact h
def mP (b:Expr):Prop:=∀ o i,subscripted b false o i=operate [o,i] (getItem o i)
def IxR (X:Cx) (r:R2):Prop :=
 ∀ (value slice:Expr) (pins:List (Addr×Obj)) (s:Shared) (σ:St) (H:Hp) (x y:V) (v u:Value) (Q:VK),Inv X pins σ H s->RelV x v->RelV y u->r x y H Q ->
  subscripted slice false v u=operate [v,u] (getItem v u)->wpAny (model X.prog X.w) X.A (subscriptTail value slice v u) (EP X pins σ Q) X.xe s
def MtR (X:Cx) (id:String) (r:V->List V->Hp->VK->Prop):Prop :=
 ∀ (pins:List (Addr×Obj)) (s:Shared) (σ:St) (H:Hp) (x:V) (xs:List V) (v:Value) (us:List Value) (Q:VK),Inv X pins σ H s->RelV x v->Vals xs us->r x xs H Q ->
  wpAny (model X.prog X.w) X.A (call (.builtin id) (v :: us)) (EP X pins σ Q) X.xe s
section
variable {X:Cx} {a b:Expr} {ta tb:TE} {pos:Pos}
theorem IxR.or {r r':R2} (h:IxR X r) (h':IxR X r'):IxR X (fun x y H Q=>r x y H Q\/r' x y H Q):=by
 intro value slice pins s σ H x y v u Q I rx ry q hs;rcases q with q | q
 ·exact h value slice pins s σ H x y v u Q I rx ry q hs
 ·exact h' value slice pins s σ H x y v u Q I rx ry q hs
theorem EJ {r:R2} (hr:IxR X r) (ha:PE X a ta) (hb:PE X b tb) (hs:mP b):PE X (.Subscript a b pos) (tOp r ta tb):=by
 intro pins s σ H Q I h;exact Subscript_ (ER ha hb I h fun v u s2 x y H2 I2 rx ry q=>hr a b pins s2 σ H2 x y v u Q I2 rx ry q (hs _ _))
def Ho (K:Fg):R2:=fun x y H Q=>∃ p xs i v,x=.ref p/\y=.int i/\SqL K H p xs/\atI xs i=some v/\Q v H
def Hq (K:Fg):R2:=fun x y H Q=>∃ p xs i v,x=.ref p/\y=.int i/\SqT K H p xs/\atI xs i=some v/\Q v H
def H0:R2:=fun x y H Q=>∃ z i c,x=.str z/\y=.int i/\z.length<=sizeLine/\atI z.cps.toList i=some c/\Q (.str ⟨#[c]⟩) H
theorem zx:IxR X (Ho X.K):=by
 intro value slice pins s σ H x y v u Q I rx ry h hs;obtain ⟨p,xs,i,z,rfl,rfl,hq,he,q⟩:=h;cases rx;obtain ⟨t,rfl⟩:=ry;obtain ⟨its,r,pl,hz⟩:=I.list hq;obtain ⟨j,h1,h2,h3,h4,h5⟩:=mw he;obtain ⟨w,ew,rw'⟩:=r.get h2;have hl:=r.length;have hn:=ly;have fin:EP X pins σ Q w s:=⟨z,H,I,rw',q⟩;by_cases h0:0<=i
 ·have hj:i.toNat=j:=by
   rw [seqIndex_of h0 h5] at h1;exact Km h1
  exact item_listR pl.isList h0 (by omega) (by rw [hj];simpa using ew) fin hs
 ·have hj:(i+(its.toArray.size:Int)).toNat=j:=by
   rw [seqIndex_neg (by omega) h4] at h1;rw [JR,<-hl];exact Km h1
  exact subscriptTail_builtinR (x:=w) pl.isList.typeIs slot_list_getitem.lookup
   (wpAny_getItem_list_neg (Q:=fun r s'=>r=w/\EP X pins σ Q r s') pl.isList (by omega) (by rw [JR] <;> omega) (by omega) (by rw [hj];simpa using ew) ⟨rfl,fin⟩) hs
theorem By:IxR X (Hq X.K):=by
 intro value slice pins s σ H x y v u Q I rx ry h hs;obtain ⟨p,xs,i,z,rfl,rfl,hq,he,q⟩:=h;cases rx;obtain ⟨t,rfl⟩:=ry;obtain ⟨its,r,pl,hz⟩:=I.tuple hq;obtain ⟨j,h1,h2,h3,h4,h5⟩:=mw he;obtain ⟨w,ew,rw'⟩:=r.get h2;have hl:=r.length;have hn:=ly;have fin:EP X pins σ Q w s:=⟨z,H,I,rw',q⟩;exact subscriptTail_builtinR (x:=w) pl.typeIs slot_tuple_getitem.lookup
  (getItem_tuple (j:=j) (Q:=fun r s'=>r=w/\EP X pins σ Q r s') pl (by omega) (by omega) (by rw [JR,<-hl];exact h1) (by simpa using ew) ⟨rfl,fin⟩) hs
theorem BN:IxR X H0:=by
 intro value slice pins s σ H x y v u Q I rx ry h hs;obtain ⟨z,i,c,rfl,rfl,hz,he,q⟩:=h;obtain ⟨t,rfl⟩:=rx;obtain ⟨t',rfl⟩:=ry;obtain ⟨j,h1,h2,h3,h4,h5⟩:=mw he;have hl:z.cps.toList.length=z.length:=by simp [Str.length]
 rw [hl] at h1 h4 h5;have hn:=ly
 exact tail_any (typeIs_str s z t) slot_str_getitem.lookup (getItem_str (c:=c) (by
  have e1:decide (i < -(2 ^ 63:Int))=false:=J3 (by omega);have e2:decide (i>=2 ^ 63)=false:=J3 (by omega)
  rw [e1,e2,Bool.or_false]) (by rw [h1];simpa using h2) ⟨.str ⟨#[c]⟩,H,I.tok _,⟨_,rfl⟩,q⟩) hs
def rIx (K:Fg):R2:=fun x y H Q=>Ho K x y H Q\/Hq K x y H Q\/H0 x y H Q
theorem zZ:IxR X (rIx X.K):=zx.or (By.or BN)
theorem lB (lo hi:Option Int) (n:Nat):(sliceBounds lo hi none n).1=((HT.sIx n 0 lo:Nat):Int)/\(sliceBounds lo hi none n).2.1=((HT.sIx n n hi:Nat):Int)/\(sliceBounds lo hi none n).2.2=1:=by
 refine ⟨?_,?_,rfl⟩
 ·cases lo with
  | none=>simp [sliceBounds,HT.sIx]
  | some i =>
   simp only [sliceBounds,HT.sIx,Option.getD_none,show (1:Int) > 0 by decide,LY];by_cases h:i < 0
   ·simp only [h,LY] <;> omega
   ·simp only [h,Lh] <;> omega
 ·cases hi with
  | none=>simp [sliceBounds,HT.sIx]
  | some i =>
   simp only [sliceBounds,HT.sIx,Option.getD_none,show (1:Int) > 0 by decide,LY];by_cases h:i < 0
   ·simp only [h,LY] <;> omega
   ·simp only [h,Lh] <;> omega
theorem jA (its:List Value) (lo hi:Option Int):slicePick its.toArray lo hi none=((its.drop (HT.sIx its.length 0 lo)).take (HT.sIx its.length its.length hi - HT.sIx its.length 0 lo)).toArray:=by
 obtain ⟨h1,h2,h3⟩:=lB lo hi its.toArray.size;unfold slicePick;rw [h1,h2,h3];simp only [sliceRange_one,pick_run,JR] <;> rfl
def HH (K:Fg):V->Option Int->Option Int->Hp->VK->Prop:=fun x lo hi H Q=>∃ a xs,x=.ref a/\SqL K H a xs/\∀ p,H p=none->Q (.ref p) (upd H p (.lst (um xs lo hi)))
theorem hG:SlR X (HH X.K):=by
 intro pins s σ H x v vl vu lo hi sl Q I rx hs pl pu h;obtain ⟨a,xs,rfl,hx,q⟩:=h;cases rx;obtain ⟨its,r,ht,hz⟩:=I.list hx;have hlen:=r.length;refine ⟨"list", _,slot_list_getitem.lookup,ht.isList.typeIs,?_⟩;refine wpAny_getItem_list_slice ht.isList hs pl pu .none (by simp) ?_ (by rw [JR] <;> omega);rw [jA,<-hlen];refine ⟨.ref s.heap.objs.size,_,I.laid (t':=s.toks) (o:=.lst (um xs lo hi)) (fun b ob q=>JN _ q) (JH _) ?_,rfl,q _ (I.hok.fresh (JH _))⟩;exact ⟨Ka (iC xs lo hi) hz,_,0,(r.drop (HT.sIx xs.length 0 lo)).take (HT.sIx xs.length xs.length hi - HT.sIx xs.length 0 lo),Kc _ rfl⟩
theorem lA:OpR X (compareOp .NotIn) (fun x y H Q=>∃ i j,x=.str i/\y=.str j/\Q (.bl (!(!(Builtin.Str.occurrences j i 0 j.length 1).isEmpty))) H):=by
 intro pins s σ H x y v u Q I rx ry h;obtain ⟨i,j,rfl,rfl,q⟩:=h;obtain ⟨t,rfl⟩:=rx;obtain ⟨t',rfl⟩:=ry;exact notIn_str ⟨.bl _,H,I,rfl,q⟩
theorem lE:aJ X (.type "list") (fun xs H Q=>∃ p ys,xs=[.ref p]/\(SqL X.K H p ys\/SqT X.K H p ys)/\∀ l,H l=none->Q (.ref l) (upd H l (.lst ys))):=by
 intro pins s σ H xs us Q I r h;obtain ⟨p,ys,rfl,hq,q⟩:=h;obtain ⟨u,rfl,rx⟩:=vals1 r;cases rx;have fin:∀ (its:List Value),Vals ys its->ys.length<=sizeLine->∀ (h':Heap) (c':Nat),(∀ b o',s.heap.get? b=some o'->h'.get? b=some o') ->
   h'.get? s.heap.objs.size=some { cls:=.type "list", dict:=none,data:=.seq its.toArray c',slots:=#[] }->EP X pins σ Q (.ref s.heap.objs.size) { s with heap:=h' }:=fun its r' hz h' c' kp e =>
  ⟨.ref s.heap.objs.size,_,I.laid (t':=s.toks) kp (JH _) (show aQ X.prog X.w _ h' _ (.lst ys) from ⟨hz,its,c',r',e⟩),rfl,q _ (I.hok.fresh (JH _))⟩
 rcases hq with hq | hq
 ·obtain ⟨its,r',pl,hz⟩:=I.list hq;have hlen:=r'.length;obtain ⟨o,ho,hc,n,hd⟩:=pl.isList;exact call_list_seq p (.inl rfl) ho hc hd (fun h' c' kp e=>fin its r' hz h' c' kp e) (by simp only [JR] <;> omega)
 ·obtain ⟨its,r',pl,hz⟩:=I.tuple hq;have hlen:=r'.length;obtain ⟨o,ho,hc,n,hd⟩:=pl;exact call_list_seq p (.inr rfl) ho hc hd (fun h' c' kp e=>fin its r' hz h' c' kp e) (by simp only [JR] <;> omega)
theorem j6:aJ X (.type "tuple") (fun xs H Q=>∃ p ys,xs=[.ref p]/\((SqL X.K H p ys/\∀ l,H l=none->Q (.ref l) (upd H l (.tup ys)))\/(SqT X.K H p ys/\Q (.ref p) H))):=by
 intro pins s σ H xs us Q I r h;obtain ⟨p,ys,rfl,h⟩:=h;obtain ⟨u,rfl,rx⟩:=vals1 r;cases rx;rcases h with ⟨hq,q⟩ | ⟨hq,q⟩
 ·obtain ⟨its,r',pl,hz⟩:=I.list hq;have hlen:=r'.length;refine call_tuple_list pl.isList (fun h' kp=>?_) (by simp only [JR] <;> omega);have I1:Inv X pins σ H { s with heap:=h' }:=I.kept (t':=s.toks) kp;have I2:Inv X pins σ (upd H h'.objs.size (.tup ys)) { s with heap:=h'.push { cls:=.type "tuple", data:=.seq its.toArray } } :=
   I1.laid (t':=s.toks) (fun b o e=>JN _ e) (JH _) (show aQ X.prog X.w _ _ _ (.tup ys) from ⟨hz,its,r',IsTup.new _ _⟩)
  exact ⟨.ref h'.objs.size,_,I2,rfl,q _ (I1.hok.fresh (JH _))⟩
 ·obtain ⟨its,r',pl,hz⟩:=I.tuple hq;exact call_tuple_same pl ⟨.ref p,H,I,rfl,q⟩
def tyV (K:Fg) (T:String) (x:V) (H:Hp):Prop:=match x with
 | .str _=>T = "str"
 | .int _=>T = "int"
 | .ref p=>(T = "list" /\ ∃ xs,SqL K H p xs)\/(T = "tuple" /\ ∃ o,K.lookup p=some o/\o.cls=.type "tuple" /\ o.dict=none) \/
   (T = "dict" /\ ((∃ kvs,H p=some (.dK kvs))\/(∃ kvs,H p=some (.dT kvs))\/∃ ep xs,H p=some (.dD ep xs)))\/(T = "set" /\ ∃ S n,H p=some (.set S n))
 | _=>False
theorem CB {pins:List (Addr×Obj)} {σ:St} {H:Hp} {s:Shared} {T:String} {x:V} {v:Value} (I:Inv X pins σ H s) (r:RelV x v) (ty:tyV X.K T x H) :
  s.TypeIs v T/\∀ a,v=.ref a->∃ ob,s.heap.get? a=some ob/\ob.dict=none:=by
 cases x with
 | str z =>
  obtain ⟨t,rfl⟩:=r;cases (show T = "str" from ty);exact ⟨typeIs_str s z t,fun _ e=>nomatch e⟩
 | int i =>
  obtain ⟨t,rfl⟩:=r;cases (show T = "int" from ty);exact ⟨typeIs_int s i t,fun _ e=>nomatch e⟩
 | ref p =>
  cases r;rcases ty with ⟨rfl,xs,hq⟩ | ⟨rfl,o,hk,hc,hd⟩ | ⟨rfl,hk⟩ | ⟨rfl,S,n,hk⟩
  ·obtain ⟨its,_,pl,_⟩:=I.list hq;refine ⟨pl.isList.typeIs,fun a e=>?_⟩;cases e;obtain ⟨o,n,e,c,hd,_⟩:=pl;exact ⟨o,e,hd⟩
  ·refine ⟨⟨o,I.kIn p o hk,hc⟩,fun a e=>?_⟩;cases e;exact ⟨o,I.kIn _ o hk,hd⟩
  ·have z:∃ o,s.heap.get? p=some o/\o.ExactDict:=by
    rcases hk with ⟨kvs,hk⟩ | ⟨kvs,hk⟩ | ⟨ep,xs,hk⟩
    ·obtain ⟨_,_,_,_,o,_,_,e,ex,_⟩:=I.hok p _ hk;exact ⟨o,e,ex⟩
    ·obtain ⟨_,_,_,_,o,_,_,e,ex,_⟩:=I.hok p _ hk;exact ⟨o,e,ex⟩
    ·obtain ⟨_,_,_,o,_,e,ex,_⟩:=I.hok p _ hk;exact ⟨o,e,ex⟩
   obtain ⟨o,e,ex⟩:=z;refine ⟨⟨o,e,ex.1⟩,fun a e2=>?_⟩;cases e2;exact ⟨o,e,ex.2.1⟩
  ·obtain ⟨o,_,_,_,e,ex,_⟩:=I.hok p _ hk;refine ⟨⟨o,e,ex.1⟩,fun a e2=>?_⟩;cases e2;exact ⟨o,e,ex.2.1⟩
 | _=>exact False.elim ty
def tBM (K:Fg) (T:String) (r:V->List V->Hp->VK->Prop) (to:TE) (t:TA):TE:=fun σ H Q=>to σ H fun x H1=>tyV K T x H1/\t σ H1 fun xs H2=>r x xs H2 Q
variable {o e:Expr} {es:List Expr} {to:TE} {t:TA} {name:Str} {apos cpos:Pos} {T id:String} {r:V->List V->Hp->VK->Prop}
theorem Hc (pa:PlainAttrs T) (slot:Slot T name id) (hty:typeOf (.builtin id)=pure (.type "method_descriptor")) (hm:MtR X id r) (ho:PE X o to) (ha:PA X (e :: es) t)
  (hbase:attributeBase o name X.env (eval o X.env)=eval o X.env:=by rfl)
  (hfew:((backTo cpos (starEach (e :: es) X.env)).all (fun x=>!x.1)&&(backToKw cpos (keywordEach [] X.env)).all (fun x=>x.1.isSome)
   && decide ((e :: es).length+([]:List Keyword).length+(if ([]:List Keyword).isEmpty then 0 else 1) < 30))=true:=by rfl)
  (hline:(apos.endLine==cpos.line)=true:=by rfl) (hs:starEach (e :: es) X.env=(false,eval e X.env) :: starEach es X.env:=by rfl) (hplain:(backTo cpos (starEach es X.env)).any (·.1)=false:=by rfl) :
  PE X (.Call (.Attribute o name apos) (e :: es) [] cpos) (tBM X.K T r to t):=by
 intro pins s σ H Q I h;refine wpAny_Call_method_late hbase hfew hline rfl (thn (ho pins s σ H _ I h) fun v s1 ⟨x,H1,I1,r1,ty,q1⟩=>?_);obtain ⟨h1,h2⟩:=CB I1 r1 ty;refine ⟨T,id,pa,slot,hty,h1,h2,?_⟩;have hA:=ha cpos pins s1 σ H1 _ I1 q1;rw [hs] at hA ⊢;refine Calls.callWith_builtin (by show (false||(backTo cpos (starEach es X.env)).any (·.1))=false;rw [hplain] <;> rfl) (Calls.evalArgs_plain ?_);exact thn hA fun us s2 ⟨vs,H2,I2,r2,q2⟩=>hm pins s2 σ H2 x vs v us Q I2 r1 r2 q2
end
end L2
namespace L2
open PySem PySem.Spec PyProof.Rows
def MtM (X:Cx) (id:String) (r:V->List V->Hp->VK->Prop):Prop :=
 ∀ (pins:List (Addr×Obj)) (s:Shared) (σ:St) (H:Hp) (x:V) (xs:List V) (v:Value) (us:List Value) (Q:VK),Inv X pins σ H s->RelV x v->Vals xs us->r x xs H Q ->
  wpAny (model X.prog X.w) X.A (call (.builtin id) (v :: us)) (EP X pins σ Q) X.xe s
theorem Vals.one:∀ {x:V} {us:List Value},Vals [x] us->∃ u,us=[u]/\RelV x u
 | _,_,.cons r .nil=>⟨_,rfl,r⟩
theorem Vals.dropLast {xs:List V} {us:List Value} (h:Vals xs us):Vals xs.dropLast us.dropLast:=by
 induction h with
 | nil=>exact .nil
 | cons r t ih =>
  cases t with
  | nil=>exact .nil
  | cons q t'=>exact .cons r ih
section
variable {X:Cx} {pins:List (Addr×Obj)} {σ:St} {H:Hp} {s:Shared} {l b:Addr} {xs ys zs:List V}
theorem Inv.Jk {its its':List Value} {n:Nat} {f:Array Value->Array Value} {t':Nat} (I:Inv X pins σ H s) (hH:H l=some (.lst xs))
  (e:s.heap.get? l=some { cls:=.type "list", data:=.seq its.toArray n }) (hf:f its.toArray=its'.toArray) (hv:Vals ys its') (hz:ys.length<=sizeLine) :
  Inv X pins σ (upd H l (.lst ys)) { s with heap:=s.heap.update l (Obj.mapSeq f),toks:=t' }:=by
 have q:=PySem.IsL.update e f;rw [hf] at q;refine I.write (x:=l) (e:=l) (by rw [hH];exact trivial) (.inl rfl) (fun b' u hb hu=>(K0 s.heap (Obj.mapSeq f) (Ne.symm hb)).trans hu) ⟨_,q⟩ ?_;exact ⟨hz,its',_,hv,q⟩
theorem Inv.Hj {its:List Value} {t':Nat} (I:Inv X pins σ H s) (hv:Vals ys its) (hz:ys.length<=sizeLine) :
  Inv X pins σ (upd H s.heap.objs.size (.lst ys)) { s with heap:=s.heap.push { cls:=.type "list", data:=.seq its.toArray },toks:=t' } :=
 I.laid (fun _ _ q=>JN _ q) (JH _) ⟨hz,its,0,hv,Kc _ rfl⟩
theorem Inv.fresh (I:Inv X pins σ H s):H s.heap.objs.size=none:=I.hok.fresh (JH _)
theorem Inv.IM (I:Inv X pins σ H s) (hH:H l=some (.lst xs)):xs.length<=sizeLine/\∃ (its:List Value) (n:Nat),Vals xs its/\xs.length=its.length/\s.heap.get? l=some { cls:=.type "list", data:=.seq its.toArray n }:=by
 obtain ⟨z,its,n,r,e⟩:=I.hok l _ hH;exact ⟨z,its,n,r,r.length,e⟩
end
section
variable {X:Cx}
def qV:V->List V->Hp->VK->Prop:=fun x vs H Q=>∃ l xs y,x=.ref l/\vs=[y]/\H l=some (.lst xs)/\xs.length < sizeLine/\Q .non (upd H l (.lst (xs++[y])))
theorem sD:MtM X "list.append" qV:=by
 intro pins s σ H x vs v us Q I rx rv h;obtain ⟨l,xs,y,rfl,rfl,hH,hz,q⟩:=h;cases rx;obtain ⟨u,rfl,ru⟩:=rv.one;obtain ⟨z,its,n,r,hl,e⟩:=I.IM hH;refine L9 F.slot_list_append ⟨_,e,rfl⟩ F.entry_list_append (F.args_list_append_2 _ _) (PySem.list_append l its.toArray n u (by rw [JR];omega)) ⟨e,?_⟩;refine ⟨.non,_,I.Jk (its':=its++[u]) hH e (by simp) (r.append (.cons ru .nil)) ?_,rfl,q⟩;rw [Jr,Ll];omega
end
end L2
namespace L2
open PySem PySem.Spec PyProof.Rows
section
variable {κ:Type} [DecidableEq κ]
noncomputable def putK (kvs:List (κ×V)) (k:κ) (v:V):List (κ×V) :=
 if (kvs.any fun kv=>decide (kv.1=k))=true then kvs.map (fun kv=>if kv.1=k then (kv.1,v) else kv) else kvs++[(k,v)]
theorem l6 (kvs:List (κ×V)) (k:κ) (v:V):(putK kvs k v).length<=kvs.length+1:=by
 unfold putK;split
 ·rw [Jt];omega
 ·rw [Jr,J2,KN];omega
theorem KV.any {kvs:List (κ×V)} {vs:List (κ×Value)} (r:KV kvs vs) (k:κ):(kvs.any fun kv=>decide (kv.1=k))=vs.any fun kv=>decide (kv.1=k):=by
 unfold KV at r;induction r with
 | nil=>rfl
 | cons h t ih=>rw [L4,L4,ih,h.1]
theorem KV.Jb {kvs:List (κ×V)} {vs:List (κ×Value)} (r:KV kvs vs) (k:κ) {y:V} {u:Value} (ry:RelV y u) :
  KV (kvs.map fun kv=>if kv.1=k then (kv.1,y) else kv) (vs.map fun kv=>if kv.1=k then (kv.1,u) else kv):=by
 unfold KV at r ⊢;induction r with
 | nil=>exact .nil
 | @cons p q ps qs h t ih =>
  rw [List.map_cons,List.map_cons];refine .cons ?_ ih;obtain ⟨h1,h2⟩:=h;by_cases e:p.1=k
  ·rw [JB e,JB (h1.symm.trans e)];exact ⟨h1,ry⟩
  ·rw [Jz e,Jz (fun z=>e (h1.trans z))];exact ⟨h1,h2⟩
theorem KV.put {kvs:List (κ×V)} {vs:List (κ×Value)} (r:KV kvs vs) (k:κ) {y:V} {u:Value} (ry:RelV y u):KV (putK kvs k y) (stored vs k u):=by
 unfold putK stored;rw [r.any k];by_cases e:(vs.any fun kv=>decide (kv.1=k))=true
 ·rw [JB e,JB e];exact r.Jb k ry
 ·rw [Jz e,Jz e];exact Paired.snoc r ⟨rfl,ry⟩
end
theorem EL {P:Program} {w:World} {k:Key} {u:Value} (r:RelV (kV k) u):(aY P w).is k u=true:=by
 cases k with
 | inl i=>obtain ⟨t,e⟩:=(show ∃ t,u=Value.int i t from r);subst e;exact mR P w i t
 | inr x=>obtain ⟨t,e⟩:=(show ∃ t,u=Value.str x t from r);subst e;exact mS P w x t
section
variable {X:Cx} {pins:List (Addr×Obj)} {σ:St} {H:Hp} {s:Shared} {a:Addr} {y v:V} {u r:Value} {o:Option V} {A:Around} {E:Value->Shared->Prop}
theorem Inv.big (I:Inv X pins σ H s):sysModules < s.heap.objs.size:=by
 have h:mainGlobals < s.heap.objs.size:=(I.mod.glob.keeps I.bk).lt;exact Nat.lt_trans (by decide) h
theorem jZ {h':Heap} {t':Nat} {ob:HO} (I:Inv X pins σ H s) (mu:Mut (H a)) (hs:Heap.SameBut a s.heap h') (he:∃ q,h'.get? a=some q) (new:aQ X.prog X.w (upd H a ob) h' a ob) :
  Inv X pins σ (upd H a ob) { s with heap:=h',toks:=t' } :=
 I.write (x:=a) (e:=a) mu (.inl rfl) (fun b q hb z=>(hs.2 b hb).trans z) he new
end
def Hx (i:Expr):Prop:=∀ ov iv,subscripted i false ov iv=operate [ov,iv] (getItem ov iv)
theorem xF {prog:Program} {w:World} {A:Around} {E:Value->Shared->Prop} {s:Shared} {env:Env} {value slice:Expr} {pos:Pos} {T id:String} {Q:Value->Shared->Prop}
  (hl:typeLookup (.type T) "__getitem__" = pure (some (.builtin id))) (hs:Hx slice)
  (h:wpAny (model prog w) A (eval value env) (fun o s₁=>wpAny (model prog w) A (eval slice env) (fun i s₂=>s₂.TypeIs o T/\wpAny (model prog w) A (getItem o i) Q E s₂) E s₁) E s) :
  wpAny (model prog w) A (eval (.Subscript value slice pos) env) Q E s:=by
 refine Subscript_ (Ke h (fun o s₁ h₁=>Ke h₁ (fun i s₂ h₂=>?_) fun _ _ x=>x) fun _ _ x=>x);obtain ⟨hT,h₂⟩:=h₂;unfold subscriptTail;refine Jp ?_;rw [getitemInPython_of_ne hT.not_modules];refine Jp (Mb hT hl ?_);have fin:wpAny (model prog w) A (subscripted slice false o i) (fun r s₃=>wpAny (model prog w) A (letTemporaryGo value o r>>=fun _=>pure r) Q E s₃) E s₂:=by
  rw [hs o i];exact wpAny_operating (Ke h₂ (fun r s₃ h₃=>Jp (wpAny_letTemporaryGo (Jw h₃))) fun _ _ x=>x)
 first
  | exact Jw (Jp fin)
  | exact Jp (Jw (Jp fin))
  | exact Jp fin
def nX:List (TE×TE)->St->Hp->(List (V×V)->Hp->Prop)->Prop
 | [],_,H,Q=>Q [] H
 | (tk,tv) :: r,σ,H,Q=>tk σ H fun x H1=>tv σ H1 fun y H2=>nX r σ H2 fun ps H3=>Q ((x,y) :: ps) H3
abbrev VV:List (V×V)->List (Value×Value)->Prop:=Paired fun p q=>RelV p.1 q.1/\RelV p.2 q.2
def PPs (X:Cx) (pos:Pos) (keys:List (Option Expr)) (values:List Expr) (trs:List (TE×TE)):Prop :=
 ∀ (pins:List (Addr×Obj)) (s:Shared) (σ:St) (H:Hp) (Q:List (V×V)->Hp->Prop),Inv X pins σ H s->nX trs σ H Q ->
  wpAny (model X.prog X.w) X.A (evalPairs (pairTrees keys values X.env pos)) (fun vs s'=>∃ ps H',Inv X pins σ H' s'/\VV ps vs/\Q ps H') X.xe s
theorem zd {X:Cx} {pos:Pos}:PPs X pos [] [] []:=fun pins s σ H Q I h=>pairTrees_nil_walk ⟨[],H,I,.nil,h⟩
theorem uP {X:Cx} {pos:Pos} {k v:Expr} {ks:List (Option Expr)} {vs:List Expr} {tk tv:TE} {trs:List (TE×TE)} (hk:PE X k tk) (hv:PE X v tv) (hr:PPs X pos ks vs trs) :
  PPs X pos (some k :: ks) (v :: vs) ((tk,tv) :: trs):=fun pins s σ H Q I h =>
 pairTrees_cons_walk (thn (hk pins s σ H _ I h) fun u s1 ⟨x,H1,I1,rx,q1⟩=>thn (hv pins s1 σ H1 _ I1 q1) fun w2 s2 ⟨y,H2,I2,ry,q2⟩ =>
  thn (hr pins s2 σ H2 _ I2 q2) fun ws s3 ⟨ps,H3,I3,rel,q3⟩=>⟨(x,y) :: ps,H3,I3,.cons ⟨rx,ry⟩ rel,q3⟩)
noncomputable def cY (kvs more:List (Key×V)):List (Key×V):=more.foldl (fun acc kv=>putK acc kv.1 kv.2) kvs
theorem KV.merge:∀ {more:List (Key×V)} {rs:List (Key×Value)} {kvs:List (Key×V)} {vs:List (Key×Value)},KV more rs->KV kvs vs->KV (cY kvs more) (merged vs rs):=by
 intro more rs kvs vs r;unfold KV at r;induction r generalizing kvs vs with
 | nil=>intro q;exact q
 | @cons p q ps qs h t ih =>
  intro r0;have e:KV (putK kvs p.1 p.2) (stored vs q.1 q.2):=by
   have:=r0.put p.1 h.2;rw [<- h.1];exact this
  exact ih e
theorem eQ:∀ (more kvs:List (Key×V)),(cY kvs more).length<=kvs.length+more.length
 | [],kvs=>by show kvs.length<=kvs.length+0;omega
 | p :: r,kvs=>by
  have h1:=eQ r (putK kvs p.1 p.2);have h2:=l6 kvs p.1 p.2;show (cY (putK kvs p.1 p.2) r).length<=_;rw [J2];omega
theorem jj {P:Program} {w:World}:∀ {kvs:List (Key×V)} {ws:List (Value×Value)},VV (kvs.map fun kv=>(kV kv.1,kv.2)) ws->∃ rs,Carries (aY P w) ws rs/\KV kvs rs
 | [],_,r=>by rw [List.map_nil] at r;cases r;exact ⟨[],True.intro,.nil⟩
 | p :: kvs,_,r=>by
  rw [List.map_cons] at r;cases r with
  | @cons a b as bs h t =>
   obtain ⟨rs,c,q⟩:=jj (P:=P) (w:=w) t;obtain ⟨b1,b2⟩:=b;exact ⟨(p.1,b2) :: rs,⟨EL h.1,rfl,c⟩,.cons ⟨rfl,h.2⟩ q⟩
end L2
namespace Att
open PySem PySem.W PySem.Calls PyProof.Rows
theorem gT {P:Params} {h:Heap}:∀ (ns:List Int) (vs:List Value),WellAll P h vs (ns.map WData.int)->IntsAre vs ns:=by
 intro ns;induction ns with
 | nil =>
  intro vs w;rw [List.map_nil] at w;cases w;exact .nil
 | cons n ns ih =>
  intro vs w;rw [List.map_cons] at w;cases w with
  | cons a b =>
   cases a;exact .cons _ _ (ih _ b)
theorem qg {l:OpenLaw} {n:Nat} (hn:l.most=some n) {P:Params} {h:Heap} {args:List WData} {vals:List Value}
  (hpre:l.row.toRowW.claim.pre args=true) (hwl:WellAll P h vals args) :
  ∃ a vs ns,vals=[Value.ref a]/\args=[WData.list (ns.map WData.int)]/\h.get? a=some { cls:=.type "list", data:=.seq vs.toArray }/\IntsAre vs ns/\ns.length<=n:=by
 have hsh:WShape.hasAll [] args [.list .int]=true:=(pre_splitW hpre).1;have hc:l.pre.holds [] { args:=args }=true:=(pre_splitW hpre).2;obtain ⟨d,r,rfl,h1,h2⟩:=hasAllW_cons hsh;obtain rfl:=hasAllW_nil h2;obtain ⟨xs,rfl,h3⟩:=hasW_list h1;obtain ⟨ns,rfl⟩:=items_int h3;have hlen:ns.length<=n:=by
  unfold OpenLaw.pre at hc;have h4:(WTm.not (.lt (.lit (.int (n:Int))) (.len (.arg 0)))).holds [] { args:=[.list (ns.map .int)] }=true:=by
   have h4:=(holds_andW hc).1;rw [hn] at h4;exact h4
  have h5:=condW_of h4 (w_not (w_lt w_lit (w_len_list (w_arg rfl))));rw [Jt] at h5;refine Nat.le_of_not_lt fun q=>?_;have q':(n:Int) < ((ns.length:Nat):Int):=by omega
  first
   | (rw [J6 q'] at h5;exact absurd h5 (by decide))
   | (simp at h5;omega)
 cases hwl with
 | cons w1 w2 =>
  cases w2;cases w1 with
  | list ho hall=>exact ⟨_,_,ns,rfl,rfl,ho,gT ns _ hall,hlen⟩
theorem tV (l:OpenLaw) (args:List WData):l.row.toRowW.claim.post args (.bool true) args=true :=
 postW_of (r:=l.row.toRowW) (X:=(true==true))
  (show WShape.has [] (.bool true) .bool=true by first | rfl | decide | simp [WShape.has,WShape.arms,WShape.armsAll])
  (show (WTm.eq .res (.lit (.bool true))).value [] { args:=args,res:=some (.bool true),after:=args }=some (.bool (true==true)) from w_eq_bool (w_res rfl) w_lit) rfl
theorem mF {l:OpenLaw} {n:Nat} {q:Program} {loose:List Str} {XP:(Str->Option Value)->Heap->Prop} {YP:World->Heap->Prop} {d:DefRec}
  (hn:l.most=some n) (hdf:d.params.defaults=[])
  (call:∀ (w:World) (s₀ s₁:Shared) (mg mb:Str->Option Value) (fa:Addr) (o:Obj) (pm cd doc:Value) (a:Addr) (vs:List Value) (ns:List Int),
   Ground q loose [] XP w s₀ mg mb s₁.heap->YP w s₁.heap ->
   s₁.heap.get? fa=some o->o.data=.func (docDef d.name d.params d.body d.scope pm cd doc)->s₁.heap.CodeRec cd d.name->mg d.name=some (.ref fa) ->
   s₁.heap.get? a=some { cls:=.type "list", data:=.seq vs.toArray }->IntsAre vs ns->ns.length<=n->s₁.gens=#[] ->
   codeAny (model l.prog w) callerA (.call (.ref fa) ⟨[.ref a],[]⟩) (fun r s'=>r=.ok (.ret (.bool true))/\OldK s₁.heap s'.heap/\s'.os=s₁.os/\AllBare s'.gens) s₁) :
  WalkO q loose XP YP l.row.toRowW d [] (fun f vs=>PySem.call f vs):=by
 intro w s₀ s₁ mg mb G Y fa o pm cd doc dV kV ho hd hcd hD hmg hg args vals as hpre hlay hrd hwl hlo;obtain rfl:dV=.none:=Dflts.none hD hdf;obtain rfl:kV=.none:=Dflts.noKw hD;obtain ⟨a,vs,ns,rfl,rfl,hobj,hints,hlen⟩:=qg hn hpre hwl;refine enter_call (codeAny_mono (call w s₀ s₁ mg mb fa o pm cd doc a vs ns G Y ho (fd_plain hd) hcd hmg hobj hints hlen hg) fun r s' hq=>?_);obtain ⟨rfl,h2,h3,h4⟩:=hq;exact ⟨.inl ⟨.bool true,.bool true,[],rfl,fun _=>rfl,.bool true,tV l _,fun _=>⟨List.Pairwise.nil,fun _ hm=>(nomatch hm)⟩⟩,h2,h3,h4⟩
end Att
namespace L2
open PySem PySem.Spec PyProof.Rows
theorem lD:∀ {vs:List Value} {ns:List Int},IntsAre vs ns->Vals (ns.map V.int) vs
 | _,_,.nil=>.nil
 | _,_,.cons n t h=>.cons ⟨t,rfl⟩ (lD h)
def D0 (H:Hp):Prop:=∀ b,H b=none\/∃ o xs,H b=some (.frz o (.lst xs))
theorem vJ {P:Program} {w:World} {K:Fg} {mg mb:Str->Option Value} {CX:CXT} {k:Nat} {fa a:Addr} {fd:FuncData} {x:Str} {sp:Sp} {s₁:Shared} {vs:List Value} {ns:List Int}
  (KX:K.In s₁.heap) (hns:s₁.heap.Ns mainGlobals mg) (hb:s₁.heap.Ns builtinsNs mb) (hbb:∀ x:Str,x ≠ "__name__" -> mb x=bootBuiltins x) (hlim:s₁.heap.NoLimit) (hg:s₁.gens=#[])
  (ha:s₁.heap.get? a=some { cls:=.type "list", data:=.seq vs.toArray }) (hi:IntsAre vs ns) (hl:ns.length<=sizeLine) (hr:cq k callerA)
  (F:∀ base:Heap,K.In base->base.Ns mainGlobals mg->br P w K mg base CX k fa fd [x] sp) (hbind:∀ (s:Shared) (u:Value),BindsTo s fd ⟨[u],[]⟩ [(x,u)])
  (hsp:∀ H:Hp,D0 H->SqL K H a (ns.map V.int)->sp [.ref a] H (fun v _=>v=.bl true) fun _ _ _=>False)
  (hCX:∀ H e s',CX [] H s₁ (fun _ _ _=>False) e s'->False) :
  codeAny (model P w) callerA (.call (.ref fa) ⟨[.ref a],[]⟩) (fun r s'=>r=.ok (.ret (.bool true))/\OldK s₁.heap s'.heap/\s'.os=s₁.os/\AllBare s'.gens) s₁:=by
 have rv:=lD hi;have lenV:=hi.length;have core:∀ H:Hp,D0 H->SqL K H a (ns.map V.int)->HOk P w H s₁.heap->(∀ b,H b≠none->b=a)->(H a≠none->K.lookup a=none) ->
   codeAny (model P w) callerA (.call (.ref fa) ⟨[.ref a],[]⟩) (fun r s'=>r=.ok (.ret (.bool true))/\OldK s₁.heap s'.heap/\s'.os=s₁.os/\AllBare s'.gens) s₁:=by
  intro H hO hS hok hA hK;have base_of:∀ {b:Addr} {o:Obj},s₁.heap.get? b=some o->H b=none->(uC s₁.heap H).get? b=some o:=fun e n=>uX e n;have noA:∀ {b:Addr} {o:Obj} {es:Array DictEntry} {ep:Nat},s₁.heap.get? b=some o->o.data=.dict es ep->H b=none:=fun {b o es ep} e d=>by
   cases q:H b with
   | none=>rfl
   | some u =>
    have e':b=a:=hA b (by rw [q];simp);subst e';rw [ha] at e;cases e;have d':Data.seq vs.toArray _=Data.dict es ep:=d;cases d'
  have nsK:∀ {b:Addr} {m:Str->Option Value},s₁.heap.Ns b m->(uC s₁.heap H).Ns b m:=fun {b m} ⟨o,es,ep,e,d,r⟩=>⟨o,es,ep,base_of e (noA e d),d,r⟩
  have hKb:K.In (uC s₁.heap H):=fun b o e=>base_of (KX b o e) (by
   cases q:H b with
   | none=>rfl
   | some u =>
    have e':b=a:=hA b (by rw [q];simp);subst e'
    rw [hK (by rw [q];simp)] at e;cases e)
  have hM:Mod K mg (uC s₁.heap H):=⟨hKb,nsK hns,⟨mb,nsK hb,hbb⟩,let ⟨mc,h1,h2⟩:=hlim;⟨mc,nsK h1,h2⟩⟩;have e0:DW P w K mg (uC s₁.heap H) callerA [] s₁ H:=⟨rfl,hM,fun b o e=>zv e,Nat.le_of_eq (tF _ _),trivial,fun b hb=>absurd (show b∈([]:List Addr) from hb) (by simp),hok,.of_eq hg⟩;refine codeAny_mono ((F _ hKb (nsK hns)).run callerA [] s₁ H ⟨[.ref a],[]⟩ [.ref a] [.ref a] _ _ hr e0 (hbind s₁ (.ref a)) (.cons rfl .nil) (hsp H hO hS)) fun r s' h=>?_;cases r with
  | error e=>exact (hCX H e s' h).elim
  | ok fl =>
   cases fl with
   | next=>exact False.elim h
   | brk=>exact False.elim h
   | cont=>exact False.elim h
   | ret u =>
    obtain ⟨v,H',os,bare,un,hok',r',q⟩:=h;have q':v=.bl true:=q;subst q';obtain rfl:u=Value.bool true:=r';refine ⟨rfl,OldK.of_keep fun b o e=>?_,os,bare⟩;cases q:H b with
    | none=>exact un.keep b o e q (by intro z;exact absurd (show b∈([]:List Addr) from z) (by simp)) (by simp)
    | some u =>
     rcases hO b with z | ⟨ob,xs,z⟩
     ·rw [q] at z;cases z
     ·have z2:=un.oh b ob _ z;obtain ⟨e1,_⟩:=hok b _ z;obtain ⟨e2,_⟩:=hok' b _ z2;rw [e] at e1;cases e1;exact e2
 cases hk:K.lookup a with
 | some o =>
  have e:=KX a o hk;rw [ha] at e;cases e;refine core (fun _=>none) (fun _=>.inl rfl) (.inr ⟨_,vs.toArray,_,hk,rfl,rfl,rfl,by rw [JR,lenV];exact hl,by simpa using rv⟩) (fun b u z=>by have z':(none:Option HO)=some u:=z;cases z') (fun b z=>absurd rfl z) fun z=>absurd rfl z
 | none =>
  refine core (fun b=>if b=a then some (.frz { cls:=.type "list", data:=.seq vs.toArray } (.lst (ns.map V.int))) else none) (fun b=>?_) (.inl (.inr ⟨{ cls:=.type "list", data:=.seq vs.toArray },JB rfl⟩)) (fun b u z=>?_) (fun b z=>?_) fun _=>hk
  ·by_cases hb:b=a
   ·exact .inr ⟨_,_,JB hb⟩
   ·exact .inl (Jz hb)
  ·by_cases hb:b=a
   ·have z':=(JB hb).symm.trans z;cases z';subst hb;exact ⟨ha,by rw [Jt];exact hl,vs,_,rv,ha⟩
   ·have z':=(Jz hb).symm.trans z;cases z'
  ·by_cases hb:b=a
   ·exact hb
   ·exact absurd (Jz hb) z
end L2
namespace L2
open PySem PySem.Spec PyProof.Rows
abbrev KOf {K:Fg} {h:Heap} (_:K.In h):Fg:=K
theorem yk {l:PySem.W.OpenLaw} {n k:Nat} {q:Program} {loose:List Str} {XP:(Str->Option Value)->Heap->Prop} {YP:World->Heap->Prop} {d:DefRec} {K:Params->Fg} {CX:World->CXT} {sp:World->Sp} {x:Str}
  (hn:l.most=some n) (hn2:n<=sizeLine) (hdf:d.params.defaults=[]) (hr:cq k callerA)
  (hY:∀ (w:World) (h:Heap),YP w h->(K w.params).In h)
  (F:∀ (w:World) (mg:Str->Option Value) (fa:Addr) (h:Heap),(K w.params).In h->h.Ns mainGlobals mg->mg d.name=some (.ref fa) ->
   ∃ fd:FuncData,(∀ (s:Shared) (u:Value),BindsTo s fd ⟨[u],[]⟩ [(x,u)]) /\
    ∀ base:Heap,(K w.params).In base->base.Ns mainGlobals mg->br l.prog w (K w.params) mg base (CX w) k fa fd [x] (sp w))
  (hsp:∀ (w:World) (H:Hp) (a:Addr) (ns:List Int),ns.length<=n->D0 H->SqL (K w.params) H a (ns.map V.int)->sp w [.ref a] H (fun v _=>v=.bl true) fun _ _ _=>False)
  (hCX:∀ (w:World) (H:Hp) (s:Shared) (e:Value) (s':Shared),CX w [] H s (fun _ _ _=>False) e s'->False) :
  PySem.W.WalkO q loose XP YP l.row.toRowW d [] (fun f vs=>PySem.call f vs):=by
 refine Att.mF hn hdf fun w s₀ s₁ mg mb fa o pm cd doc a vs ns G Y ho hd hcd hmg hobj hints hlen hg=>?_;have KX:=hY w _ Y;obtain ⟨fd,hb,hF⟩:=F w mg fa _ KX G.T.g hmg;exact vJ KX G.T.g G.T.b G.T.builtins G.T.nolimit hg hobj hints (Ka hlen hn2) hr hF hb (fun H hO hS=>hsp w H a ns hlen hO hS) fun H e s'=>hCX w H s₁ e s'
theorem vh {l:PySem.W.OpenLaw} {n k:Nat} {q:Program} {loose:List Str} {XP:(Str->Option Value)->Heap->Prop} {YP:World->Heap->Prop} {d:DefRec} {K:Params->Fg} {CX:CXT} {sp:Fg->Sp} {x:Str}
  (hn:l.most=some n) (hn2:n<=sizeLine) (hdf:d.params.defaults=[]) (hr:cq k callerA)
  (hY:∀ (w:World) (h:Heap),YP w h->(K w.params).In h)
  (F:∀ (w:World) (mg:Str->Option Value) (fa:Addr) (h:Heap),(K w.params).In h->h.Ns mainGlobals mg->mg d.name=some (.ref fa) ->
   ∃ fd:FuncData,(∀ (s:Shared) (u:Value),BindsTo s fd ⟨[u],[]⟩ [(x,u)]) /\
    ∀ base:Heap,(K w.params).In base->base.Ns mainGlobals mg->br l.prog w (K w.params) mg base CX k fa fd [x] (sp (K w.params)))
  (hsp:∀ (K:Fg) (H:Hp) (a:Addr) (ns:List Int),ns.length<=n->D0 H->SqL K H a (ns.map V.int)->sp K [.ref a] H (fun v _=>v=.bl true) fun _ _ _=>False)
  (hCX:∀ (H:Hp) (s:Shared) (e:Value) (s':Shared),CX [] H s (fun _ _ _=>False) e s'->False) :
  PySem.W.WalkO q loose XP YP l.row.toRowW d [] (fun f vs=>PySem.call f vs) :=
 yk (K:=K) (CX:=fun _=>CX) (sp:=fun w=>sp (K w.params)) hn hn2 hdf hr hY F (fun w H a ns h1 h2 h3=>hsp (K w.params) H a ns h1 h2 h3) fun _ H s e s'=>hCX H s e s'
end L2
namespace L2
open PySem PySem.Spec PyProof.Rows
noncomputable def gI (s:Stmt):Arguments:=match s with
 | .FunctionDef _ a _ _ _ _ _ _ _ _=>a
 | _=>{ posonlyargs:=[],args:=[],vararg:=none,kwonlyargs:=[],kw_defaults:=[],kwarg:=none,defaults:=[] }
noncomputable def bE (s:Stmt):List Stmt:=match s with
 | .FunctionDef _ _ b _ _ _ _ _ _ _=>b
 | _=>[]
noncomputable def aa (s:Stmt):Scope:=match s with
 | .FunctionDef _ _ _ _ _ _ sc _ _ _=>sc
 | _=>{ kind:=.function,names:=[],isGenerator:=false,isCoroutine:=false }
abbrev CX0:CXT:=fun _ _ _ _ _ _=>False
abbrev E0:XK:=fun _ _ _=>False
theorem xR {X:Cx}:Passes CX0 X E0:=fun _ _ _ _ _ _ _ h=>h.elim
structure Fun (K:Fg) (x qual:Str) (st:Stmt) (f:Addr) (fd:FuncData):Prop where
 ex:∃ (oc:Value) (od:Option Addr) (kV doc pm:Value) (an:Option Addr) (cdv ct:Value) (osl:Array (Option Value)),
  fd=PySem.W.fnOf x qual (gI st) (bE st) (aa st) .none kV doc pm an cdv ct/\K.lookup f=some ⟨oc,od,.func fd,osl⟩/\PySem.W.codeIn K cdv qual=true
 kp:PySem.W.keepIn K (.ref f)=true
section
variable {P:Program} {w:World} {K:Fg} {mg:Str->Option Value} {base:Heap}
theorem Fun.ok {x qual:Str} {st:Stmt} {f:Addr} {fd:FuncData} {N ps:List Str} {k:Nat} {sp:Sp} (F:Fun K x qual st f fd) (S:ag N ps (aa st)) (len:∀ vs H Q E,sp vs H Q E->vs.length=ps.length)
  (hbody:∀ (cdv:Value) (A:Around) (outer:List Env) (s:Shared) (H:Hp) (vs:List V) (Q:VK) (E:XK),cq k (A.deeper (envOfC qual (aa st) s.heap.objs.size f cdv))->sp vs H Q E ->
   ∃ t,PSs (md CX0 P w K mg base N qual (aa st) f cdv A outer s H E).nox (bE st) t/\t { nx:=fun _ H'=>Q .non H',rt:=Q } (start N vs) H):br P w K mg base CX0 (k+1) f fd ps sp:=by
 obtain ⟨oc,od,kV,doc,pm,an,cdv,ct,osl,rfl,lk,hcd⟩:=F.ex;refine C7 lk hcd S len fun A outer s H vs Q E hr hsp=>?_;obtain ⟨t,h,q⟩:=hbody cdv A outer s H vs Q E hr hsp;exact ⟨t,h.nox,q⟩
theorem Dk {x qual:Str} {st:Stmt} {f:Addr} {oc:Value} {od an:Option Addr} {osl:Array (Option Value)} {kV doc pm cdv ct:Value} (l:K.lookup f=some ⟨oc,od,.func (PySem.W.fnOf x qual (gI st) (bE st) (aa st) .none kV doc pm an cdv ct),osl⟩)
  (c:PySem.W.codeIn K cdv qual=true) (k:PySem.W.keepIn K (.ref f)=true):Fun K x qual st f (PySem.W.fnOf x qual (gI st) (bE st) (aa st) .none kV doc pm an cdv ct):=⟨⟨oc,od,kV,doc,pm,an,cdv,ct,osl,rfl,l,c⟩,k⟩
end
def ar (H H':Hp):Prop:=∀ b o,H b=some o->H' b=some o
theorem ar.refl (H:Hp):ar H H:=fun _ _ h=>h
theorem ar.trans {H H1 H2:Hp} (a:ar H H1) (b:ar H1 H2):ar H H2:=fun c o h=>b c o (a c o h)
theorem ar.free {H H':Hp} (e:ar H H') {l:Addr} (h:H' l=Option.none):H l=Option.none:=by
 cases q:H l with
 | none=>rfl
 | some o =>
  rw [e l o q] at h;cases h
noncomputable def lM (env:Env):List (Str×NameKind)->List (Str×Addr)->List (Str×Addr)
 | [],cs=>cs
 | (n,k) :: r,cs=>lM env r (if k==.free then (n,(env.cells.lookup n).getD 0) :: cs else cs)
theorem cU {env:Env}:∀ (ns:List (Str×NameKind)) (cs:List (Str×Addr)),(∀ y∈ns,y.2=.free->∃ c,env.cells.lookup y.1=some c) ->
  (forIn ns cs (fun (x:Str×NameKind) (r:List (Str×Addr))=>if (x.2==NameKind.free)=true then (cellOf env x.1>>=fun a=>pure (ForInStep.yield ((x.1,a) :: r)):Sem _) else pure (ForInStep.yield r)):Sem (List (Str×Addr)))=pure (lM env ns cs)
 | [],_,_=>rfl
 | (n,k) :: r,cs,h=>by
  rw [List.forIn_cons];by_cases hk:k=.free
  ·subst hk;obtain ⟨c,e⟩:=h (n,.free) Jy rfl;have e':env.cells.lookup n=some c:=e;have q:=cU (env:=env) r ((n,c) :: cs) fun y hy=>h y (JJ _ hy);have z:lM env ((n,NameKind.free) :: r) cs=lM env r ((n,c) :: cs):=by
    show lM env r (if (NameKind.free==NameKind.free)=true then (n,(env.cells.lookup n).getD 0) :: cs else cs)=_;rw [JB (by decide),e'];rfl
   have k:cellOf env n=pure c:=by
    unfold cellOf;rw [e']
   rw [z,<-q];dsimp only;rw [JB (by decide),k];rfl
  ·have hb:(k==NameKind.free)=false:=by simpa using hk
   have q:=cU (env:=env) r cs fun y hy=>h y (JJ _ hy);have z:lM env ((n,k) :: r) cs=lM env r cs:=by
    show lM env r (if (k==NameKind.free)=true then (n,(env.cells.lookup n).getD 0) :: cs else cs)=_;rw [hb,Jz JL]
   rw [z,<-q];dsimp only;rw [hb,Jz JL];rfl
theorem i5 {scope:Scope} {env:Env} (h:∀ y∈scope.names,y.2=.free->∃ c,env.cells.lookup y.1=some c):closureFor scope env=pure (lM env scope.names []):=by
 have q:=cU (env:=env) scope.names [] h;unfold closureFor;show (forIn scope.names [] _>>=_:Sem _)=_;refine Eq.trans (congrArg (fun m:Sem (List (Str×Addr))=>m>>=fun r=>pure r) (Eq.trans ?_ q)) rfl;rfl
theorem ny {env:Env}:∀ (ns:List (Str×NameKind)) (cs:List (Str×Addr)),(∀ y∈ns,y.2=.free->∃ c,env.cells.lookup y.1=some c)->(∀ y c,cs.lookup y=some c->env.cells.lookup y=some c) ->
  ∀ y c,(lM env ns cs).lookup y=some c->env.cells.lookup y=some c
 | [],_,_,g,y,c,e=>g y c e
 | (n,k) :: r,cs,h,g,y,c,e=>by
  refine ny r _ (fun z hz=>h z (JJ _ hz)) (fun z d e'=>?_) y c e;by_cases hk:(k==NameKind.free)=true
  ·rw [JB hk] at e';rw [L5] at e';obtain ⟨c',ec⟩:=h (n,k) Jy (by simpa using hk);have ec':env.cells.lookup n=some c':=ec;cases hz:z==n with
   | true =>
    rw [hz] at e';have hzn:z=n:=by simpa using hz
    subst hzn;rw [ec'] at e' ⊢;exact e'
   | false=>rw [hz] at e';exact g z d e'
  ·rw [Jz hk] at e';exact g z d e'
theorem k6 {env:Env} {y:Str}:∀ (ns:List (Str×NameKind)) (cs:List (Str×Addr)),(∃ c,cs.lookup y=some c)->∃ c,(lM env ns cs).lookup y=some c
 | [],_,h=>h
 | (n,k) :: r,cs,h=>by
  refine k6 r _ ?_;by_cases hk:(k==NameKind.free)=true
  ·rw [JB hk,L5];cases y==n
   ·exact h
   ·exact ⟨_,rfl⟩
  ·rw [Jz hk];exact h
theorem gi {env:Env} {y:Str}:∀ (ns:List (Str×NameKind)) (cs:List (Str×Addr)),(y,NameKind.free)∈ns->∃ c,(lM env ns cs).lookup y=some c
 | [],_,h=>by simp at h
 | (n,k) :: r,cs,h=>by
  rcases JV.mp h with e | h
  ·cases e;show ∃ c,(lM env r (if (NameKind.free==NameKind.free)=true then (y,(env.cells.lookup y).getD 0) :: cs else cs)).lookup y=some c;refine k6 r _ ⟨(env.cells.lookup y).getD 0,?_⟩;rw [JB (by decide),L5,Ks]
  ·exact gi r _ h
theorem bP {env:Env} {y:Str} {k:NameKind}:∀ (ns:List (Str×NameKind)),
  (ns.map fun (n,k)=>if (k==NameKind.free&&env.scope.kind==.function&&env.kindOf n==some .cell) then (n,NameKind.cell) else (n,k)).lookup y=some k->(y,k)∈ns\/(k=.cell/\(y,NameKind.free)∈ns)
 | [],h=>by simp at h
 | (n,k') :: r,h=>by
  have ih:=fun q=>bP (env:=env) (y:=y) (k:=k) r q;rw [List.map_cons] at h;have h2:=h;have again:=fun q=>(ih q).elim (fun q=>Or.inl (JJ (n,k') q)) fun q=>(Or.inr ⟨q.1,JJ (n,k') q.2⟩:(y,k)∈(n,k') :: r\/(k=.cell/\(y,NameKind.free)∈(n,k') :: r));dsimp only at h2;clear h;by_cases hc:(k'==NameKind.free&&env.scope.kind==.function&&env.kindOf n==some .cell)=true
  ·rw [JB hc,L5] at h2;cases hy:y==n with
   | true =>
    rw [hy] at h2;have e1:y=n:=by simpa using hy
    have hk:k'=.free:=by
     have:=hc;simp at this;exact this.1.1
    have e2:k=.cell:=(Km h2).symm;exact .inr ⟨e2,by rw [e1,hk];exact Jy⟩
   | false=>rw [hy] at h2;exact again h2
  ·rw [Jz hc,L5] at h2;cases hy:y==n with
   | true =>
    rw [hy] at h2;have e1:y=n:=by simpa using hy
    have e2:k'=k:=Km h2;exact .inl (by rw [e1,e2];exact Jy)
   | false=>rw [hy] at h2;exact again h2
noncomputable def cxB (X:Cx) (N':List Str) (scope:Scope) (C:Addr) (s3:Shared) (H3:Hp) (ex:List Addr):Cx :=
  { prog:=X.prog,w:=X.w,K:=X.K,mg:=X.mg,base:=X.base,A:=X.A,N:=N',s₀:=s3,H₀:=H3,env:=compEnvC scope (lM X.env scope.names []) C X.env,outer:=X.stack,stack:=X.stack,ex:=ex,
    fn:=fun _=>false,calm:=true,pn:=[],xe:=fun _ _=>False }
def eH (X:Cx) (scope:Scope):List Str->List Nat->Prop
 | [],[]=>True
 | y :: ys,j :: js=>X.N[j]?=some y/\(X.env.scope.names.lookup y=some .cell/\scope.names.lookup y=some .free)/\eH X scope ys js
 | _,_=>False
theorem eH.get {X:Cx} {scope:Scope}:∀ {ys:List Str} {js:List Nat} {k:Nat} {y:Str},eH X scope ys js->ys[k]?=some y->∃ j,js[k]?=some j/\X.N[j]?=some y/\X.env.scope.names.lookup y=some .cell/\scope.names.lookup y=some .free
 | [],_,_,_,_,e=>by simp at e
 | _ :: _,[],_,_,h,_=>False.elim h
 | y :: ys,j :: js,0,z,h,e=>by simp at e;subst e;exact ⟨j,rfl,h.1,h.2.1⟩
 | y :: ys,j :: js,k+1,z,h,e=>by
  obtain ⟨j',e1,e2⟩:=eH.get (k:=k) h.2.2 (by simpa using e);exact ⟨j',by simpa using e1,e2⟩
theorem eH.len {X:Cx} {scope:Scope}:∀ {ys:List Str} {js:List Nat},eH X scope ys js->ys.length=js.length
 | [],[],_=>rfl
 | _ :: _,_ :: _,h=>by simp [eH.len h.2.2]
 | [],_ :: _,h=>False.elim h
 | _ :: _,[],h=>False.elim h
noncomputable def ba (js:List Nat) (σ:St):St:=js.map fun j=>(σ[j]?).getD none
structure fK (X:Cx) (scope:Scope) (x:Str):Prop where
 kind:scope.kind=.function
 cells:∀ y∈scope.names,y.2≠.cell
 locs:∀ y∈scope.names,y.2=.local->scope.names.lookup y.1=some .local
 var:scope.names.lookup x=some .local
 free:∀ y∈scope.names,y.2=.free->X.env.scope.names.lookup y.1=some .cell
def PTs (X:Cx) (ifs:List Expr) (t:TT):Prop :=
 ∀ (pins:List (Addr×Obj)) (s:Shared) (σ:St) (H:Hp) (Q:Bool->Hp->Prop),Inv X pins σ H s->t σ H Q ->
  wpAny (model X.prog X.w) X.A (forIn ifs true fun c r=>if r=true then do let ok<-isTrue c X.env (eval c X.env);pure (ForInStep.yield ok) else pure (ForInStep.yield r)) (TP X pins σ Q) X.xe s
def Fp:TT:=fun _ H Q=>Q true H
theorem yC {X:Cx}:PTs X [] Fp:=fun _ _ _ H _ I h=>wpAny_tests_nil ⟨H,I,h⟩
theorem yT {X:Cx} {c:Expr} {t:TT} (h:PT X c t):PTs X [c] t:=fun pins s σ H Q I q=>wpAny_tests_one (h pins s σ H Q I q)
theorem rn {X:Cx} {pins:List (Addr×Obj)} {σ:St} {H:Hp} {s3:Shared} {h1:Heap} {tk:Nat} {scope:Scope} {x:Str} {ys:List Str} {js:List Nat} {ex:List Addr} (I:Inv X pins σ H s3) (hc:X.calm=true) (B:fK X scope x) (cap:eH X scope ys js)
  (hns:h1.Ns s3.heap.objs.size (fun _=>none)) (hk:∀ b o,s3.heap.get? b=some o->h1.get? b=some o)
  (hex:∀ b∈ex,b ∉ frs X.stack/\b < s3.heap.objs.size/\(∀ y c,X.env.cells.lookup y=some c->c≠b)/\X.base.get? b=none) :
  Inv (cxB X (x :: ys) scope s3.heap.objs.size s3 H ex) [] (none :: ba js σ) H { s3 with heap:=h1,toks:=tk }:=by
 have hfree:∀ y∈scope.names,y.2=.free->∃ c,X.env.cells.lookup y.1=some c:=fun y hy hf=>I.ok.has y.1 (.inl (B.free y hy hf));have sub:=ny (env:=X.env) scope.names [] hfree (fun _ _ e=>by simp at e)
 refine ⟨⟨I.ok.mod,B.kind,I.ok.glob,I.ok.blt,JH _,fun y z c h1 h2=>I.ok.inj y z c (sub _ _ h1) (sub _ _ h2),fun y hy=>?_,fun y c hf _=>?_,fun _=>I.ok.hd hc,I.ok.frames,.inl rfl,fun b hb=>?_,fun b o e=>I.bs b o e,Ka I.ok.bsz I.sz,fun b o e hb=>?_,fun b hb=>(hex b hb).1,I.stack,I.jy⟩,
  rfl,I.bare,Un.kept hk,⟨_,hns,fun i y v e1 e2 e3=>?_⟩,fun y c e=>?_,I.hok.fresh (JH _),fun y c e=>I.dU y c (sub _ _ e),fun p hp=>absurd (show p∈([]:List (Addr×Obj)) from hp) (by simp),I.hok.kept hk,?_⟩
 ·have hy:(relabel scope X.env).names.lookup y=some .cell\/(relabel scope X.env).names.lookup y=some .free:=hy;rcases hy with hy | hy
  ·rcases bP _ hy with q | ⟨_,q⟩
   ·exact absurd rfl (B.cells _ q)
   ·exact gi _ _ q
  ·rcases bP _ hy with q | ⟨q,_⟩
   ·exact gi _ _ q
   ·cases q
 ·exact absurd (show false=true from hf) (by simp)
 ·exact ⟨Kk (hex b hb).2.1,fun y c e=>(hex b hb).2.2.1 y c (sub _ _ e)⟩
 ·have e':X.base.get? b=some o:=e;have:=(hex b hb).2.2.2;rw [e'] at this;cases this
 ·cases i with
  | zero=>simp at e2
  | succ i =>
   have e1':ys[i]?=some y:=by simpa [cxB] using e1
   have e2':(ba js σ)[i]?=some (some v):=by simpa using e2
   obtain ⟨j,ej,en,ec,ef⟩:=cap.get e1';have e4:σ[j]?=some (some v):=by
    unfold ba at e2';rw [JU,ej] at e2';simp only [Mc,Option.some.injEq] at e2';cases q:σ[j]? with
    | none=>rw [q] at e2';cases e2'
    | some w=>rw [q] at e2';simp at e2';rw [e2']
   obtain ⟨m,hn,hl⟩:=I.loc;obtain ⟨u,r,l⟩:=hl j y v en e4 (.inr (.inl ec));refine ⟨u,r,.inr ?_⟩;rcases l with ⟨kl,_⟩ | ⟨kc,c,ecl,cell⟩
   ·have kl:X.env.scope.names.lookup y=some .local:=kl;rw [ec] at kl;cases kl
   ·have e3:(relabel scope X.env).names.lookup y=some .local\/(relabel scope X.env).names.lookup y=some .cell\/(relabel scope X.env).names.lookup y=some .free:=e3;refine ⟨?_,?_⟩
    ·rcases e3 with q | q | q
     ·rcases bP _ q with q | ⟨q,_⟩
      ·have:=B.locs _ q rfl;rw [ef] at this;cases this
      ·cases q
     ·exact .inl q
     ·exact .inr q
    ·have mem:(y,NameKind.free)∈scope.names:=Lv ef;obtain ⟨c',ec'⟩:=gi (env:=X.env) scope.names [] mem;have:=sub _ _ ec';rw [ecl] at this;cases this;obtain ⟨o,ho,hd⟩:=cell;exact ⟨c,ec',o,hk _ _ ho,hd⟩
 ·obtain ⟨v,o,ho,hd⟩:=I.cell y c (sub _ _ e);exact ⟨v,o,hk _ _ ho,hd⟩
 ·show (none :: ba js σ).length=(x :: ys).length;rw [J2,J2,cap.len];unfold ba;rw [Jt]
def oI (js:List Nat) (wi:TI) (tt:TT) (te:TE):TE:=fun σ H Q=>wi σ H fun J H1=>∃ W:Nat->Nat->List V->Hp->Prop,(∃ m,W 0 m [] H1)/\∀ i m acc H,W i m acc H ->
 (J.stop i H/\acc.length<=sizeLine/\∀ p,H p=none->Q (.ref p) (upd H p (.lst acc)))\/(J.go i H/\acc.length < sizeLine/\∀ x H',J.yld i H x H' ->
  tt (some x :: ba js σ) H' fun b H2=>if b=true then te (some x :: ba js σ) H2 fun y H3=>∃ m',m' < m/\W (i+1) m' (acc++[y]) H3 else ∃ m',m' < m/\W (i+1) m' acc H2)
theorem vt {M:Model} {A:Around} {α β:Type} {E E':Value->Shared->Prop} {a:α} {t:Sem α} {u:Sem β} {Q:α->Shared->Prop} {R:β->Shared->Prop} {s s':Shared} (e:t=pure a) (h:wpAny M A t Q E s) (k:Q a s->wpAny M A u R E' s'):wpAny M A u R E' s':=by
 subst e;exact fun Γ p hΓ=>k (h Γ p hΓ) Γ p hΓ
theorem mX {X:Cx} {pins:List (Addr×Obj)} {σ:St} {H:Hp} {s2:Shared} {elt iter:Expr} {x:Str} {px pos:Pos} {ifs:List Expr} {scope:Scope} {tt:TT} {te:TE} {ys:List Str} {js:List Nat} {it:Addr} {fp:List Addr} {tn:Nat->Heap->Prop} {J:It}
    {Q:VK} {E:Value->Shared->Prop} {RR:Value->Addr->Result->Shared->Prop} (hc:X.calm=true) (B:fK X scope x) (nd:(x :: ys).Nodup) (cap:eH X scope ys js)
    (ht:∀ C s3 H3 ex,PTs (cxB X (x :: ys) scope C s3 H3 ex) ifs tt) (he:∀ C s3 H3 ex,PE (cxB X (x :: ys) scope C s3 H3 ex) elt te)
    (I:Inv X pins σ H s2) (T:Turn X.prog X.w X.K (.Name x px) J fp it tn) (h0:tn 0 s2.heap) (hf:∀ b∈fp,wL X pins H b)
    (W:Nat->Nat->List V->Hp->Prop) (w0:∃ m,W 0 m [] H)
    (turn:∀ i m acc H,W i m acc H->(J.stop i H/\acc.length<=sizeLine/\∀ p,H p=none->Q (.ref p) (upd H p (.lst acc)))\/(J.go i H/\acc.length < sizeLine/\∀ x H',J.yld i H x H' ->
      tt (some x :: ba js σ) H' fun b H2=>if b=true then te (some x :: ba js σ) H2 fun y H3=>∃ m',m' < m/\W (i+1) m' (acc++[y]) H3 else ∃ m',m' < m/\W (i+1) m' acc H2))
    (hRR:∀ (D C:Addr) (H':Hp) (s':Shared) (m':Str->Option Value),s'.heap.Ns C m'->s2.heap.objs.size<=C->C≠D->H' C=none->Inv X pins σ H' s'->Q (.ref D) H'->RR (.ref D) C (.ok .next) s') :
    wpAny (model X.prog X.w) X.A (newList []) (fun acc s₃=>wpAny (model X.prog X.w) X.A (newFunctionEnv scope X.env.globals (lM X.env scope.names []) [] X.env.qual none .none (some X.env)) (fun cenv s₄ =>
      codeAny (model X.prog X.w) X.A (.compStart (.ListComp elt [⟨.Name x px,iter,ifs,0⟩] scope pos) 0 (.ref it) acc { cenv with scope:=relabel scope X.env }) (RR acc cenv.locals) s₄) E s₃) E s2:=by
  refine KU (wpAny_newFunctionEnv B.cells (by intro y hy;simp at hy) (fun h1 hns hsb=>?_) B.kind);dsimp only at hns hsb ⊢;have hD:H s2.heap.objs.size=none:=I.hok.fresh (JH _);generalize hH2:s2.heap.push { cls:=.type "list", dict:=none,data:=.seq ([]:List Value).toArray }=P2 at hns hsb ⊢;have hgetD:P2.get? s2.heap.objs.size=some { cls:=.type "list", dict:=none,data:=.seq ([]:List Value).toArray }:=by rw [<- hH2];exact Kc _ rfl
  have hold:∀ b o,s2.heap.get? b=some o->P2.get? b=some o:=fun b o e=>by rw [<- hH2];exact JN _ e
  have hsz:P2.objs.size=s2.heap.objs.size+1:=by rw [<- hH2,Heap.size_push]
  have I3:Inv X pins σ H { s2 with heap:=P2,toks:=s2.toks }:=I.kept hold;generalize hDe:s2.heap.objs.size=D at *;have keep1:∀ b o,P2.get? b=some o->h1.get? b=some o:=fun b o e=>hsb.extBut b o (Kk (JX e)) (JN _ e);have hfp:∀ b∈fp,b < D:=fun b hb=>by
    obtain ⟨o,e,_⟩:=T.obj _ _ h0 b hb;rw [<- hDe];exact JX e
  have hstk:∀ b,b≠X.env.locals->b ∉ X.fs->b ∉ frs X.stack:=fun b h1 h2 z=>(JV.mp (I.kM b z)).elim h1 h2;have hDl:D≠X.env.locals:=fun z=>absurd I.lt (by rw [hDe,z];exact Kr _);have hDfs:D ∉ X.fs:=I.C1 (by rw [hDe];exact JH _);have hDc:∀ y c,X.env.cells.lookup y=some c->c≠D:=fun y c e z=>by
    obtain ⟨v,q⟩:=I.cell y c e;have:=q.lt;rw [z,hDe] at this;exact absurd this (Kr _)
  have hex:∀ b∈D :: fp,b ∉ frs X.stack/\b < ({ s2 with heap:=P2,toks:=s2.toks }:Shared).heap.objs.size/\(∀ y c,X.env.cells.lookup y=some c->c≠b)/\X.base.get? b=none:=fun b hb=>by
    rcases JV.mp hb with rfl | hb
    · refine ⟨hstk _ hDl hDfs,by show _ < P2.objs.size;rw [hsz];exact Lr _,hDc,?_⟩;cases q:X.base.get? b with
      | none=>rfl
      | some o =>
        have:=JX (I.bk b o q);rw [hDe] at this;exact absurd this (Kr _)
    · obtain ⟨f0,f1,f2,f3,f4,f5⟩:=hf b hb;refine ⟨hstk _ f1 f2,by show _ < P2.objs.size;rw [hsz];exact Nat.lt_succ_of_lt (hfp b hb),f4,?_⟩;cases q:X.base.get? b with
      | none=>rfl
      | some o =>
        rcases f3 with z | z
        · exact absurd z (I.ok.wQ b o q)
        · exact absurd (J4 (JX q) (Ka I.ok.bsz z)) (Kr _)
  have IB:=rn (tk:=s2.toks) (ex:=D :: fp) I3 hc B cap (h1:=h1) hns keep1 hex;have hCD:P2.objs.size≠D:=by rw [hsz];exact Nat.succ_ne_self _
  have start:codeAny (model X.prog X.w) X.A (.compLoop (.ListComp elt [⟨.Name x px,iter,ifs,0⟩] scope pos) 0 (.ref it) (.ref D) (compEnvC scope (lM X.env scope.names []) P2.objs.size X.env)) (RR (.ref D) P2.objs.size) { s2 with heap:=h1,toks:=s2.toks }:=by
    obtain ⟨m0,w0⟩:=w0;refine codeAny_compLoop_tests (fun n s=>∃ i v0 H' acc its k,Inv (cxB X (x :: ys) scope P2.objs.size { s2 with heap:=P2,toks:=s2.toks } H (D :: fp)) [] (v0 :: ba js σ) H' s/\tn i s.heap/\(∀ b∈D :: fp,H' b=none)/\s.heap.get? D=some { cls:=.type "list", data:=.seq its k }/\Vals acc its.toList/\acc.length<=sizeLine/\W i n acc H') ?_ m0 ?_
    · rintro n s ⟨i,v0,H3,acc,its,k,I4,t4,fr4,g4,va,hl4,w4⟩;have hDm:D∈D :: fp:=Jy;have exf:=I4.ok.exf;have fsub:∀ b∈D :: fp,b ∉ (cxB X (x :: ys) scope P2.objs.size { s2 with heap:=P2,toks:=s2.toks } H (D :: fp)).fs:=fun b hb=>(hex b hb).1;have stat:∀ {H':Hp} {ob:Obj},(∀ b∈fp,H' b=none)->∀ b∈fp,wL (cxB X (x :: ys) scope P2.objs.size { s2 with heap:=P2,toks:=s2.toks } H (D :: fp)) [(D,ob)] H' b:=fun {H' ob} hn b hb =>
        ⟨hn b hb,(exf b (JJ _ hb)).1,fsub b (JJ _ hb),.inl (JJ _ hb),(exf b (JJ _ hb)).2,fun p hp z=>by
          have hp':p∈[(D,ob)]:=hp;have e:=JD.mp hp';rw [e] at z
          exact absurd (hfp b hb) (by rw [<- show D=b from z];exact Kr _)⟩
      have frp:∀ b∈fp,H3 b=none:=fun b hb=>fr4 b (JJ _ hb);have I5:Inv (cxB X (x :: ys) scope P2.objs.size { s2 with heap:=P2,toks:=s2.toks } H (D :: fp)) [(D,{ cls:=.type "list", data:=.seq its k })] (v0 :: ba js σ) H3 s:=I4.cA fun p hp=>by
        rw [JD.mp hp];exact ⟨g4,fr4 D hDm,(exf D hDm).1,fsub D hDm,fun v z=>nomatch z⟩
      rcases turn i n acc H3 w4 with ⟨stop,hacc,q⟩ | ⟨go,hacc,step⟩
      · refine Ke (T.done (cxB X (x :: ys) scope P2.objs.size { s2 with heap:=P2,toks:=s2.toks } H (D :: fp)) rfl rfl rfl rfl i _ s _ H3 (fun _ _=>False) I5 (stat frp) t4 stop) (fun r s1 ⟨hr,I6⟩=>?_) (fun _ _ z=>z.elim);subst hr;obtain ⟨m',hn',_⟩:=id I6.loc;have pD:=(I6.pin (D,{ cls:=.type "list", data:=.seq its k }) (Jx _ (JD.mpr rfl))).1;have nD:H3 D=none:=fr4 D hDm;have u:=I6.base;have uu:Un (frs X.stack) (D :: fp) H (upd H3 D (.lst acc)) P2 s1.heap :=
          ⟨u.keep,u.slot,fun b o q n hx=>by rw [ai fun z=>hx (by rw [z];exact hDm)];exact u.free b o q n hx,u.there,
           fun b xs q=>by rw [ai (aA (u.oH b xs q) nD)];exact u.oH b xs q,fun b o v q=>by rw [ai (aA (u.oh b o v q) nD)];exact u.oh b o v q,
           fun b ps q=>by
            obtain ⟨more,z⟩:=u.pR b ps q
            exact ⟨more,by rw [ai (aA z nD)];exact z⟩⟩
        have hok:HOk X.prog X.w (upd H3 D (.lst acc)) s1.heap:=fun b o e=>by
          by_cases hb:b=D
          · subst hb;rw [af] at e;cases e;exact ⟨hacc,its.toList,k,va,by rw [Array.toArray_toList];exact pD⟩
          · rw [ai hb] at e;exact (I6.hok b o e).j9 (fun c v _ q=>q) (fun c q=>by rw [ai (aA q nD)];exact q) fun c xs q=>by rw [ai (aA q nD)];exact q
        have fin:=I3.call (g':=s1.gens) (t':=s1.toks) (d':=s1.drawn) uu hok I6.bare (fun b hb=>by
          rcases JV.mp hb with z | hb
          · rw [z];refine ⟨.inr (by rw [<- hDe];exact I.sz),hDl,hDc,fun p hp z=>?_⟩;have:=JX (I.pin p hp).1;rw [z,hDe] at this;exact Kr _ this
          · exact ⟨(hf b hb).2.2.2.1,(hf b hb).2.1,(hf b hb).2.2.2.2.1,(hf b hb).2.2.2.2.2⟩)
        have es:({ heap:=s1.heap,gens:=s1.gens,drawn:=s1.drawn,toks:=s1.toks,os:=s2.os }:Shared)=s1:=by
          have:=I6.os;obtain ⟨a1,a2,a3,a4,a5⟩:=s1;have e5:a5=s2.os:=this;rw [e5]
        have fin':Inv X pins σ (upd H3 D (.lst acc)) s1:=es▸fin;exact hRR D P2.objs.size (upd H3 D (.lst acc)) s1 m' hn' (by rw [hsz];exact Nat.le_succ _) hCD (by rw [ai hCD];exact I6.free) fin' (q D nD)
      · refine Ke (T.item (cxB X (x :: ys) scope P2.objs.size { s2 with heap:=P2,toks:=s2.toks } H (D :: fp)) rfl rfl rfl rfl i _ s _ H3 (fun _ _=>False) I5 (stat frp) t4 go) (fun r s1 ⟨u,hr,h4⟩=>?_) (fun _ _ z=>z.elim);subst hr;refine vt (a:=()) rfl h4 fun ⟨x',H5,I6,r6,y6,t6,fr6⟩=>?_;have I7:=I6.pinned (stat fr6) (T.obj _ _ t6);have kx:(relabel scope X.env).names.lookup x=some .local:=lookup_relabel_local B.var;have pg:PG (cxB X (x :: ys) scope P2.objs.size { s2 with heap:=P2,toks:=s2.toks } H (D :: fp)) (.Name x px) (bQ 0):=mG nd rfl (.inl kx) (.inr kx);refine Ke (pg _ s1 _ H5 x' u (fun σ' H'=>σ'=some x' :: ba js σ/\H'=H5) I7 r6 ⟨rfl,rfl⟩) (fun _ s2' ⟨σ6,H6,I8,e1,e2⟩=>?_) (fun _ _ z=>z.elim);subst e1 e2;refine Ke (ht _ _ _ _ _ s2' _ _ _ I8 (step x' H6 y6)) (fun b s3' ⟨H7,I9,q9⟩=>?_) (fun _ _ z=>z.elim);have pinsKeep:∀ {σ':St} {H':Hp} {s':Shared},Inv (cxB X (x :: ys) scope P2.objs.size { s2 with heap:=P2,toks:=s2.toks } H (D :: fp)) ([(D,{ cls:=.type "list", data:=.seq its k })]++kZ fp s1.heap) σ' H' s' ->
            s'.heap.get? D=some { cls:=.type "list", data:=.seq its k }/\(∀ b∈D :: fp,H' b=none)/\∀ b∈fp,∀ o,s1.heap.get? b=some o->s'.heap.get? b=some o:=fun {σ' H' s'} J=>by
          have pd:=J.pin (D,{ cls:=.type "list", data:=.seq its k }) (Jx _ (J9 _ (JD.mpr rfl)));refine ⟨pd.1,fun b hb=>?_,fun b hb o e=>(J.pin (b,o) (Jx _ (Jx _ (dg hb e)))).1⟩;rcases JV.mp hb with rfl | hb
          · exact pd.2.1
          · obtain ⟨o,e,_⟩:=T.obj _ _ t6 b hb;exact (J.pin (b,o) (Jx _ (Jx _ (dg hb e)))).2.1
        cases b with
        | false =>
          rw [Jz JL] at q9;obtain ⟨m',hm,w9⟩:=q9;obtain ⟨p1,p2,p3⟩:=pinsKeep I9;rw [Jz JL];exact ⟨m',hm,i+1,some x',H7,acc,its,k,I9.cA (fun p hp=>absurd hp (by simp)),T.keep _ _ _ t6 p3,p2,p1,va,hl4,w9⟩
        | true =>
          rw [JB rfl] at q9;rw [JB rfl];refine Ke (he _ _ _ _ _ s3' _ _ _ I9 q9) (fun y s4' ⟨yv,H8,I10,ry,m',hm,w10⟩=>?_) (fun _ _ z=>z.elim);obtain ⟨p1,p2,p3⟩:=pinsKeep I10;have hsize:its.size=acc.length:=by rw [va.length];simp
          have I11:=I10.cA (pins':=[]) (fun p hp=>absurd hp (by simp));refine wpAny_list_append_plain ⟨k,p1⟩ (fun h' hpl hsame=>?_) (by rw [hsize];exact Ma hacc);obtain ⟨k',e'⟩:=hpl;have neD:∀ {b:Addr} {o:HO},H8 b=some o->b≠D:=fun e z=>by rw [z,p2 D hDm] at e;cases e
          refine ⟨m',hm,i+1,some x',H8,acc++[yv],its.push y,k',?_,?_,p2,e',?_,?_,w10⟩
          · refine I11.step (g':=s4'.gens) (t':=s4'.toks) (d':=s4'.drawn) (ch:=[D]) (fun b hb=>?_) (fun b o _ _ hc' e _=>?_) (fun b o _ _ hc' e _=>⟨o.slots,?_⟩) (fun b o hc' e n=>n) (fun b o hc' e=>⟨o,?_⟩) (fun _ _ z=>z) (fun _ _ _ z=>z) (fun b ps z=>⟨#[],by rw [z];simp⟩) (fun m hn=>hn.sameBut hsame (Ne.symm (exf D hDm).1)) (fun b o e=>?_) I11.bare
            · rw [JD.mp hb];exact ⟨.inl hDm,(exf D hDm).1,(exf D hDm).2,fun p hp=>absurd (show p∈([]:List (Addr×Obj)) from hp) (by simp)⟩
            · exact (hsame.2 b fun z=>hc' (JD.mpr z)).trans e
            · exact (hsame.2 b fun z=>hc' (JD.mpr z)).trans e
            · exact (hsame.2 b fun z=>hc' (JD.mpr z)).trans e
            · refine (I11.hok b o e).j9 (fun c v hc' q=>(hsame.2 c ?_).trans q) (fun _ q=>q) fun _ _ q=>q;rcases hc' with z | z
              · rw [z];exact neD e
              · exact neD z
          · refine T.keep _ _ _ t6 fun b hb o e=>(hsame.2 b ?_).trans (p3 b hb o e);exact Kk (hfp b hb)
          · rw [Array.toList_push];exact va.append (.cons ry .nil)
          · rw [Jr,Ll];exact hacc
    · refine ⟨0,none,H,[],#[],_,IB,T.keep _ _ _ h0 (fun b hb o e=>keep1 b o (hold b o e)),fun b hb=>?_,keep1 _ _ hgetD,.nil,KA _,w0⟩;rcases JV.mp hb with rfl | hb
      · exact hD
      · exact (hf b hb).1
  exact codeAny_compStart_list start (T.self _ 0 _ _ _ (T.keep _ _ _ h0 (fun b hb o e=>keep1 b o (hold b o e))) start)
theorem yS {X:Cx} {elt iter:Expr} {x:Str} {px pos:Pos} {ifs:List Expr} {scope:Scope} {wi:TI} {tt:TT} {te:TE} {ys:List Str} {js:List Nat} (hc:X.calm=true) (hi:PI X (.Name x px) iter wi) (B:fK X scope x) (nd:(x :: ys).Nodup) (cap:eH X scope ys js)
  (ht:∀ C s3 H3 ex,PTs (cxB X (x :: ys) scope C s3 H3 ex) ifs tt) (he:∀ C s3 H3 ex,PE (cxB X (x :: ys) scope C s3 H3 ex) elt te) (hs:∀ x,foldedSetIterable iter X.env x=pure x:=by intro _;rfl) :
  PE X (.ListComp elt [⟨.Name x px,iter,ifs,0⟩] scope pos) (oI js wi tt te):=by
 intro pins s σ H Q I h;have hcl:=i5 (scope:=scope) (env:=X.env) fun y hy hf=>I.ok.has y.1 (.inl (B.free y hy hf));rw [eval_ListComp];refine wpAny_comprehension_free (use:=none) rfl hs hcl B.kind B.locs (Ke (hi pins s σ H _ I h) (fun xv s1 h1=>Ke h1 (fun itv s2 h2=>?_) fun _ _ e=>e) fun _ _ e=>e);obtain ⟨it,fp,tn,J,H2,e,I2,T,st2,f2,W,w0,turn⟩:=h2;subst e;refine mX (RR:=fun acc C=>compPost (model X.prog X.w) X.A X.xe none (EP X pins σ Q) acc C) hc B nd cap ht he I2 T st2 f2 W w0 turn ?_;intro D C H' s' m' hn hC hCD hCn I' q;refine ⟨m',hn,fun h' hs'=>⟨.ref D,H',?_,rfl,q⟩⟩;have hL:X.env.locals≠C:=Kk (J4 I2.lt hC);have neC:∀ {b:Addr} {o:HO},H' b=some o->b≠C:=fun e z=>by rw [z,hCn] at e;cases e
 refine I'.step (g':=s'.gens) (t':=s'.toks) (d':=s'.drawn) (ch:=[C]) (fun b hb=>?_) (fun b o _ _ hc' e _=>?_) (fun b o _ _ hc' e _=>⟨o.slots,?_⟩) (fun b o hc' e n=>n) (fun b o hc' e=>⟨o,?_⟩) (fun _ _ z=>z) (fun _ _ _ z=>z) (fun b ps z=>⟨#[],by rw [z];simp⟩) (fun m hn=>hn.sameBut hs' hL) (fun b o e=>?_) I'.bare
 ·rw [JD.mp hb];refine ⟨.inr (Ka I2.sz hC),Ne.symm hL,fun y c e z=>?_,fun p hp z=>?_⟩
  ·obtain ⟨v,q⟩:=I2.cell y c e;have:=q.lt;rw [z] at this;exact absurd (J4 this hC) (Kr _)
  ·have:=JX (I2.pin p hp).1;rw [z] at this;exact absurd (J4 this hC) (Kr _)
 ·exact (hs'.2 b fun z=>hc' (JD.mpr z)).trans e
 ·exact (hs'.2 b fun z=>hc' (JD.mpr z)).trans e
 ·exact (hs'.2 b fun z=>hc' (JD.mpr z)).trans e
 ·refine (I'.hok b o e).j9 (fun c v hc' q=>(hs'.2 c ?_).trans q) (fun _ q=>q) fun _ _ q=>q;rcases hc' with z | z
  ·rw [z];exact neC e
  ·exact neC z
theorem yW {X:Cx} {elt iter:Expr} {x y:Str} {px py pos spos:Pos} {ifs:List Expr} {scope:Scope} {wi:TI} {tt:TT} {te:TE} {ys:List Str} {js:List Nat} {i:Nat} (hN:X.N.Nodup) (hi':X.N[i]?=some y) (hy:X.env.scope.names.lookup y=some .local)
  (hsw:swapsWith (.ListComp elt [⟨.Name x px,iter,ifs,0⟩] scope pos) (some (.Name y py)) spos.line X.env=pure true) (hc:X.calm=true) (hi:PI X (.Name x px) iter wi) (B:fK X scope x) (nd:(x :: ys).Nodup) (cap:eH X scope ys js)
  (ht:∀ C s3 H3 ex,PTs (cxB X (x :: ys) scope C s3 H3 ex) ifs tt) (he:∀ C s3 H3 ex,PE (cxB X (x :: ys) scope C s3 H3 ex) elt te) (hs:∀ x,foldedSetIterable iter X.env x=pure x:=by intro _;rfl) :
  PS X (.Assign [.Name y py] (.ListComp elt [⟨.Name x px,iter,ifs,0⟩] scope pos) spos) (kN (oI js wi tt te) (bQ i)):=by
 intro pins s σ H Dn I h;have hcl:=i5 (scope:=scope) (env:=X.env) fun y hy hf=>I.ok.has y.1 (.inl (B.free y hy hf));rw [exec_Assign_Name_used _ _ _ _ hsw];refine Jp (wpAny_standAt (Jp ?_));show wpAny _ X.A (do let _<-comprehension (.ListComp elt [⟨.Name x px,iter,ifs,0⟩] scope pos) scope X.env _ (newList []) false (eval iter X.env) (some (assign (.Name y py) X.env))) _ _ s
 refine Jp (Ke (wpAny_comprehension_free (use:=some (assign (.Name y py) X.env)) (Q:=fun _ s'=>SP X pins Dn .next s') rfl hs hcl B.kind B.locs
  (Ke (hi pins s σ H _ I h) (fun xv s1 h1=>Ke h1 (fun itv s2 h2=>?_) fun _ _ e=>e) fun _ _ e=>e)) (fun _ s' hq=>Jw (Jw hq)) fun _ _ e=>e)
 obtain ⟨it,fp,tn,J,H2,e,I2,T,st2,f2,W,w0,turn⟩:=h2;subst e;refine mX (Q:=fun x H1=>bQ i x σ H1 Dn.nx) (RR:=fun acc C=>compPost (model X.prog X.w) X.A X.xe (some (assign (.Name y py) X.env)) (fun _ s'=>SP X pins Dn .next s') acc C) hc B nd cap ht he I2 T st2 f2 W w0 turn ?_;intro D C H' s' m' hn hC hCD hCn I' q;have hL:X.env.locals≠C:=Kk (J4 I2.lt hC);have hCfs:C ∉ X.fs:=I2.C1 hC;obtain ⟨oC,esC,epC,hoC,hdC,restC⟩:=id hn;have I'':Inv X (pins++[(C,oC)]) σ H' s':=I'.cA fun p hp=>by
  rcases Kb.mp hp with z | z
  ·exact I'.pin p (Jx _ z)
  ·rw [JD.mp z];exact ⟨hoC,hCn,Ne.symm hL,hCfs,fun v z=>by rw [hdC] at z;cases z⟩
 show wpAny _ X.A (assign (.Name y py) X.env (.ref D)) _ _ _;refine Ke (mG (pos:=py) hN hi' (.inl hy) (.inr hy) _ s' σ H' (.ref D) (.ref D) Dn.nx I'' rfl q) (fun _ s3 ⟨σ3,H3,I3,q3⟩=>?_) fun _ _ e=>e;have pC:=I3.pin (C,oC) (Jx _ (Jx _ (JD.mpr rfl)));have hn3:s3.heap.Ns C m':=⟨oC,esC,epC,pC.1,hdC,restC⟩;have hCn3:H3 C=none:=pC.2.1;refine ⟨m',hn3,fun h' hs'=>⟨σ3,H3,?_,q3⟩⟩;have I4:=I3.fY;have neC:∀ {b:Addr} {o:HO},H3 b=some o->b≠C:=fun e z=>by rw [z,hCn3] at e;cases e
 refine I4.step (g':=s3.gens) (t':=s3.toks) (d':=s3.drawn) (ch:=[C]) (fun b hb=>?_) (fun b o _ _ hc' e _=>?_) (fun b o _ _ hc' e _=>⟨o.slots,?_⟩) (fun b o hc' e n=>n) (fun b o hc' e=>⟨o,?_⟩) (fun _ _ z=>z) (fun _ _ _ z=>z) (fun b ps z=>⟨#[],by rw [z];simp⟩) (fun m hn=>hn.sameBut hs' hL) (fun b o e=>?_) I4.bare
 ·rw [JD.mp hb];refine ⟨.inr (Ka I2.sz hC),Ne.symm hL,fun y c e z=>?_,fun p hp z=>?_⟩
  ·obtain ⟨v,q⟩:=I2.cell y c e;have:=q.lt;rw [z] at this;exact absurd (J4 this hC) (Kr _)
  ·have:=JX (I2.pin p hp).1;rw [z] at this;exact absurd (J4 this hC) (Kr _)
 ·exact (hs'.2 b fun z=>hc' (JD.mpr z)).trans e
 ·exact (hs'.2 b fun z=>hc' (JD.mpr z)).trans e
 ·exact (hs'.2 b fun z=>hc' (JD.mpr z)).trans e
 ·refine (I4.hok b o e).j9 (fun c v hc' q=>(hs'.2 c ?_).trans q) (fun _ q=>q) fun _ _ q=>q;rcases hc' with z | z
  ·rw [z];exact neC e
  ·exact neC z
def Its (x:Str):It:=⟨fun i _=>i < x.length,fun i H v H'=>H'=H/\∃ c,x.cps[i]?=some c/\v=.str ⟨#[c]⟩,fun i _=>x.length<=i⟩
theorem u9 {P:Program} {w:World} {K:Fg} {y:Str} {py:Pos} {x:Str} {it:Addr} {St:Nat->Heap->Prop} (W:∀ A':Around,A'.handled=none->Walks P w A' it [it] [it] x.cps.size (SignAt x) St)
  (ob:∀ i h,St i h->∃ o,h.get? it=some o/\∀ v,o.data≠.cell v) (hs:∀ (A:Around) i (s:Shared) (Q:Value->Shared->Prop) (E:Value->Shared->Prop),St i s.heap->Q (.ref it) s->wpAny (model P w) A (pyIter (.ref it)) Q E s) :
  Turn P w K (.Name y py) (Its x) [it] it (fun i h=>i<=x.cps.size/\St i h) where
 mem:=by simp
 obj:=fun i h st b hb=>by
  have e:b=it:=by simpa using hb
  subst e;exact ob i h st.2
 keep:=fun i h h' st k=>⟨st.1,(W { depth:=0,frames:=none,guards:=none,units:=0,handled:=none } rfl).frame i h h' st.2 fun b hb o e=>k b hb o e⟩
 item:=by
  intro X hP hw hK hc i pins s σ H E I hf st hg;subst hP hw hK;obtain ⟨f0,f1,f2,f3,f4,f5⟩:=hf it (by simp);refine (W X.A (I.ok.hd hc)).item i s _ _ hg st.2 fun v h' tk hv st' kk=>?_;obtain ⟨c,t,hcps,rfl⟩:=hv;have I1:Inv X pins σ H { s with heap:=h',toks:=tk }:=I.turned (fun b o hb e=>kk b o (by simpa using hb) e) f0 f1 f3 f4 f5;exact ⟨_,rfl,Jw (show _ from ⟨.str ⟨#[c]⟩,H,I1,⟨t,rfl⟩,⟨rfl,c,hcps,rfl⟩,⟨hg,st'⟩,fun b hb=>(hf b hb).1⟩)⟩
 done:=by
  intro X hP hw hK hc i pins s σ H E I hf st hg;subst hP hw hK;obtain ⟨f0,f1,f2,f3,f4,f5⟩:=hf it (by simp);have e:i=x.cps.size:=Nat.le_antisymm st.1 hg;subst e;exact (W X.A (I.ok.hd hc)).done s _ _ st.2 fun h' tk kk=>⟨rfl,I.turned (fun b o hb e=>kk b o (by simpa using hb) e) f0 f1 f3 f4 f5⟩
 self:=fun A i s Q E st h=>hs A i s Q E st.2 h
def GP (tl:TE):TI:=fun σ H R=>tl σ H fun x H1=>∃ z,x=.str z/\R (Its z) H1
theorem zP {X:Cx} {y:Str} {py:Pos} {l:Expr} {tl:TE} (hl:PE X l tl):PI X (.Name y py) l (GP tl):=by
 intro pins s σ H R I h;refine thn (hl pins s σ H _ I h) fun v s1 ⟨x,H1,I1,r1,q1⟩=>?_;obtain ⟨z,e,q⟩:=q1;subst e;obtain ⟨t,rfl⟩:=r1;have hn:H1 s1.heap.objs.size=none:=I1.hok.fresh (JH _);have key:∀ (T:String) (sz:T = "str_ascii_iterator" \/ T = "str_iterator"),PIE X pins σ (.Name y py) R (.ref s1.heap.objs.size) { s1 with heap:=s1.heap.push { cls:=.type T,data:=.fields #[.str z t,.int 0 0] } }:=fun T sz=>by
  have I2:Inv X pins σ H1 { s1 with heap:=s1.heap.push { cls:=.type T,data:=.fields #[.str z t,.int 0 0] },toks:=s1.toks }:=I1.kept fun b o e=>JN _ e;have st0:(s1.heap.push { cls:=.type T,data:=.fields #[.str z t,.int 0 0] }).IsStrIter s1.heap.objs.size T z t 0:=⟨_,Kc _ rfl,rfl,rfl⟩;refine ⟨s1.heap.objs.size,[s1.heap.objs.size],fun i h=>i<=z.cps.size/\h.IsStrIter s1.heap.objs.size T z t i,Its z,H1,rfl,I2,?_,⟨KA _,st0⟩,fun b hb=>?_,q⟩
  ·refine u9 (fun A' hA=>?_) (fun i h st=>?_) fun A i s Q E st hq=>?_
   ·rcases sz with rfl | rfl
    ·exact Walks.strAscii hA _ z t
    ·exact Walks.strWide hA _ z t
   ·obtain ⟨o,e,c,d⟩:=st;exact ⟨o,e,fun v z=>by rw [d] at z;cases z⟩
   ·rcases sz with rfl | rfl
    ·exact wpAny_pyIter_striter_ascii st hq
    ·exact wpAny_pyIter_striter_wide st hq
  ·rw [JD.mp hb];exact I1.DJ (JH _) hn
 cases ha:z.cps.all (· < 128)
 ·exact wpAny_pyIter_wide ha (key _ (.inr rfl))
 ·exact wpAny_pyIter_ascii ha (key _ (.inl rfl))
section
variable {X:Cx}
theorem qH:OpR X (compareOp .LtE) (fun x y H Q=>∃ i j,x=.str i/\y=.str j/\Q (.bl (!(decide (j.cps.toList < i.cps.toList)))) H):=by
 intro pins s σ H x y v u Q I rx ry h;obtain ⟨i,j,rfl,rfl,q⟩:=h;obtain ⟨t,rfl⟩:=rx;obtain ⟨t',rfl⟩:=ry;exact P.le_str ⟨.bl _,H,I,rfl,q⟩
theorem OpR.or' {f:Value->Value->Sem Value} {r r':R2} (h:OpR X f r) (h':OpR X f r'):OpR X f (fun x y H Q=>r x y H Q\/r' x y H Q):=by
 intro pins s σ H x y v u Q I rx ry q;rcases q with q | q
 ·exact h pins s σ H x y v u Q I rx ry q
 ·exact h' pins s σ H x y v u Q I rx ry q
theorem uL:OpR X (binaryOp .FloorDiv) (rI (fun _ j=>0 < j/\j.natAbs.log2 < 9000) fun i j=>.int (i / j)):=opI fun i j _ _ _ _ _ hc q=>by
 have h1:(0:Int) < j:=hc.1;exact floordiv_int (by omega) (by rw [Int.fdiv_eq_ediv_of_nonneg i (by omega)];exact q) (.inl (PyProof.noPylong_of_log2 hc.2))
theorem tw (hc:X.calm=true):aJ X (.builtin "all") (fun xs H Q=>∃ (a:Addr) (bs:List Bool),xs=[.ref a]/\SqL X.K H a (bs.map V.bl)/\Q (.bl (bs.all id)) H):=by
 intro pins s σ H xs us Q I r h;obtain ⟨a,bs,rfl,hq,q⟩:=h;obtain ⟨u,rfl,r1⟩:=vals1 r;cases (show u=Value.ref a from r1);obtain ⟨its,rv,p,hz⟩:=I.list hq;have ha:a < s.heap.objs.size:=by
  obtain ⟨o,e,_⟩:=p.isList;exact JX e
 refine call_all_walk (wpAny_pyIter_list p.isList ?_);refine ⟨s.heap.objs.size,_,_,_,_,_,fun i=>(bs[i]?).getD true,rfl,Walks.list (show X.A.in1.handled=none from I.ok.hd hc) s.heap.objs.size a (Kk ha) its.toArray,⟨⟨_,Kc _ rfl,rfl,rfl⟩,p.isList.push _⟩,?_,?_⟩
 ·intro i v s' Q' E' hv hQ;have hv':its[i]?=some v:=by simpa using hv
  have hi:i < its.length:=(Js.mp hv').1;have hb:i < bs.length:=by have:=rv.length;rw [Jt] at this;omega
  obtain ⟨u,hu,ru⟩:=rv.get (i:=i) (x:=.bl bs[i]) (by rw [JU,Jq hb];rfl);rw [hv'] at hu;cases hu;cases (show v=Value.bool bs[i] from ru);dsimp only at hQ;rw [Jq hb] at hQ;exact Kt hQ
 ·intro h' tk kk;have e:(List.range its.toArray.size).all (fun i=>(bs[i]?).getD true)=bs.all id:=by
   have hl:its.toArray.size=bs.length:=by rw [JR,<-rv.length,Jt]
   rw [hl,Bool.eq_iff_iff,Lf,Lf];constructor
   ·intro h b hb;obtain ⟨i,hi,e⟩:=List.mem_iff_getElem.mp hb;have:=h i (List.mem_range.mpr hi);rw [Jq hi,e] at this;exact this
   ·intro h i hi;rw [Jq (List.mem_range.mp hi)];exact h _ (L6 _)
  rw [e];have I1:Inv X pins σ H { s with heap:=s.heap.push { cls:=.type "list_iterator", data:=.fields #[.ref a,rawInt 0] },toks:=s.toks }:=I.kept fun b o e=>JN _ e;have hn:H s.heap.objs.size=none:=I.hok.fresh (JH _)
  have I2:Inv X pins σ H { s with heap:=h',toks:=tk }:=I.kept fun b o e=>kk b o (by
   intro z;have:=JD.mp z;rw [this] at e
   exact absurd (JX e) (Kr _)) (JN _ e)
  exact ⟨.bl _,H,I2,rfl,q⟩
noncomputable def ur (x:Str) (lo hi:Option Int):Str:=⟨((x.cps.toList.drop (HT.sIx x.length 0 lo)).take (HT.sIx x.length x.length hi - HT.sIx x.length 0 lo)).toArray⟩
theorem Fd (lo hi:Option Int) (n:Nat):Builtin.Str.strSliceIndices lo hi 1 n=(List.range (HT.sIx n n hi - HT.sIx n 0 lo)).map (HT.sIx n 0 lo+·):=by
 rw [<- sliceRange_one];unfold Builtin.Str.strSliceIndices;dsimp only;have h1:(1:Int) > 0:=by decide
 have e0:(match lo with | none=>(if (1:Int) > 0 then 0 else (n:Int) - 1) | some i=>if (1:Int) > 0 then max 0 (min (if i < 0 then i+(n:Int) else i) (n:Int)) else max (-1) (min (if i < 0 then i+(n:Int) else i) ((n:Int) - 1)))=((HT.sIx n 0 lo:Nat):Int):=by
  cases lo with
  | none=>simp [HT.sIx]
  | some i =>
   simp only [HT.sIx,h1,LY];by_cases h:i < 0
   ·simp only [h,LY] <;> omega
   ·simp only [h,Lh] <;> omega
 have e1:(match hi with | none=>(if (1:Int) > 0 then (n:Int) else -1) | some i=>if (1:Int) > 0 then max 0 (min (if i < 0 then i+(n:Int) else i) (n:Int)) else max (-1) (min (if i < 0 then i+(n:Int) else i) ((n:Int) - 1)))=((HT.sIx n n hi:Nat):Int):=by
  cases hi with
  | none=>simp [HT.sIx]
  | some i =>
   simp only [HT.sIx,h1,LY];by_cases h:i < 0
   ·simp only [h,LY] <;> omega
   ·simp only [h,Lh] <;> omega
 rw [<- e0,<-e1];cases lo <;> cases hi <;> rfl
theorem nH (n:Nat) (v:Option Int):HT.sIx n n v<=n/\HT.sIx n 0 v<=n:=by
 cases v with
 | none=>simp [HT.sIx]
 | some i =>
  simp only [HT.sIx];split <;> omega
def Hv:V->Option Int->Option Int->Hp->VK->Prop:=fun x lo hi H Q=>∃ z,x=.str z/\z.length<=sizeLine/\Q (.str (ur z lo hi)) H
theorem gG (x:Str) (lo hi:Option Int):(ur x lo hi).length<=x.length:=by
 have e:x.cps.toList.length=x.length:=by simp [Str.length]
 show (((x.cps.toList.drop _).take _).toArray).size<=x.length;rw [JR,Kp,K3,e];omega
theorem kO:SlR X Hv:=by
 intro pins s σ H x v vl vu lo hi sl Q I rx hs pl pu h;obtain ⟨z,rfl,hz,q⟩:=h;obtain ⟨t,rfl⟩:=rx;refine ⟨"str", _,F.slot_str_getitem.lookup,typeIs_str _ _ _,?_⟩;obtain ⟨l,el,el'⟩:∃ l:Option (Int×Tok),l.map (·.1)=lo/\vl=partValue l:=by
  cases pl with
  | none=>exact ⟨none,rfl,rfl⟩
  | int i t=>exact ⟨some (i,t),rfl,rfl⟩
 obtain ⟨u,eu,eu'⟩:∃ l:Option (Int×Tok),l.map (·.1)=hi/\vu=partValue l:=by
  cases pu with
  | none=>exact ⟨none,rfl,rfl⟩
  | int i t=>exact ⟨some (i,t),rfl,rfl⟩
 subst el' eu';obtain ⟨o,h1,h2,h3⟩:=hs;refine wpAny_getItem_str_slice (l:=l) (u:=u) (st:=none) ⟨o,h1,h2,h3⟩ rfl ?_;have pk:slicePicked z l u none=(List.range (HT.sIx z.length z.length hi - HT.sIx z.length 0 lo)).map (HT.sIx z.length 0 lo+·):=by
  rw [<- Fd,<-el,<-eu];rfl
 have ez:z.cps.toList.length=z.length:=by simp [Str.length]
 have cut:(⟨((slicePicked z l u none).filterMap (z.cps[·]?)).toArray⟩:Str)=ur z lo hi:=by
  rw [pk,pick_run];rfl
 unfold sliceMade;split
 ·rename_i hc;have hl:(slicePicked z l u none).length=z.length:=by
   have:=(Bool.and_eq_true_iff.mp hc).2;simpa using this
  rw [pk,Jt,Kz] at hl;have b1:=nH z.length hi;have b2:=nH z.length lo;have h0:HT.sIx z.length 0 lo=0\/z.length=0:=by omega
  have e:ur z lo hi=z:=by
   unfold ur;rcases h0 with h0 | h0
   ·rw [h0,List.drop_zero,KL (by omega)]
   ·have hn:z.cps.toList=[]:=Kd (by omega);rw [hn];have:z.cps=#[]:=by
     have:=congrArg List.toArray hn;simpa using this
    obtain ⟨c⟩:=z;simp only at this;subst this;simp
  rw [e] at q;exact ⟨.str z,H,I,⟨t,rfl⟩,q⟩
 ·rw [cut];exact ⟨Ka (gG _ _ _) hz,⟨.str _,H,I.tok _,⟨_,rfl⟩,q⟩⟩
end
mutual
def Dn (p:Addr) (H:Hp):PyData->V->Prop
 | .none,v=>v=.non
 | .bool b,v=>v=.bl b
 | .int i,v=>v=.int i
 | .str x,v=>v=.str x
 | .list ds,v=>∃ a xs,v=.ref a/\a≠p/\H a=some (.lst xs)/\DnL p H ds xs
 | .tuple ds,v=>∃ a xs,v=.ref a/\a≠p/\H a=some (.tup xs)/\DnL p H ds xs
 | .dict kvs,v=>kvs=[]/\∃ a,v=.ref a/\a≠p/\H a=some (.dK [])
def DnL (p:Addr) (H:Hp):List PyData->List V->Prop
 | [],vs=>vs=[]
 | d :: ds,vs=>∃ v r,vs=v :: r/\Dn p H d v/\DnL p H ds r
end
open PySem PySem.Spec PyProof.Rows
def rOr (r r':R2):R2:=fun x y H Q=>r x y H Q\/r' x y H Q
def F5 (r r':V->Option Int->Option Int->Hp->VK->Prop):V->Option Int->Option Int->Hp->VK->Prop:=fun x l u H Q=>r x l u H Q\/r' x l u H Q
def z0:R2:=fun x y H Q=>∃ i j,x=.str i/\y=.str j/\i.length+j.length<=sizeLine/\Q (.str (i++j)) H
def Gv:R2:=fun x y H Q=>∃ i j,x=.str i/\y=.str j/\Q (.bl (decide (i.cps.toList < j.cps.toList))) H
def HY:R2:=fun x y H Q=>∃ i j,x=.str i/\y=.str j/\Q (.bl (!(decide (j.cps.toList < i.cps.toList)))) H
def Ic:R2:=fun x y H Q=>∃ i j,x=.str i/\y=.str j/\Q (.bl (!(Builtin.Str.occurrences j i 0 j.length 1).isEmpty)) H
def yb:R2:=fun x y H Q=>∃ i j,x=.str i/\y=.str j/\Q (.bl (!(!(Builtin.Str.occurrences j i 0 j.length 1).isEmpty))) H
def Hr (K:Fg):List V->Hp->VK->Prop:=fun xs H Q=>∃ (a:Addr) (bs:List Bool),xs=[.ref a]/\SqL K H a (bs.map V.bl)/\Q (.bl (bs.all id)) H
def Bx (K:Fg):List V->Hp->VK->Prop:=fun xs H Q=>∃ x n,xs=[x]/\HS K x H n/\Q (.int n) H
def F3:List V->Hp->VK->Prop:=fun xs H Q=>∃ i,xs=[.int i]/\Q (.int (if i < 0 then -i else i)) H
def A4:List V->Hp->VK->Prop:=fun xs H Q=>(∃ i,xs=[.int i]/\Q (.int i) H)\/∃ k,xs=[.bl k]/\Q (.int (if k then 1 else 0)) H
section
variable {X:Cx}
theorem orR {f:Value->Value->Sem Value} {r r':R2} (h:OpR X f r) (h':OpR X f r'):OpR X f (rOr r r'):=OpR.or' h h'
theorem orS {r r':V->Option Int->Option Int->Hp->VK->Prop} (h:SlR X r) (h':SlR X r'):SlR X (F5 r r'):=SlR.or h h'
theorem yR:OpR X (binaryOp .Add) z0:=pH
theorem Bu:OpR X (compareOp .Lt) Gv:=qx
theorem Ax:OpR X (compareOp .LtE) HY:=qH
theorem Am:OpR X (compareOp .In) Ic:=qY
theorem qN:OpR X (compareOp .NotIn) yb:=lA
theorem qD (hc:X.calm=true):aJ X (.builtin "all") (Hr X.K):=tw hc
theorem sQ:aJ X (.builtin "len") (Bx X.K):=vo
theorem rD:aJ X (.builtin "abs") F3:=vG
theorem rR:aJ X (.type "int") A4:=uc
end
end L2
namespace L2
open PySem
noncomputable def nh (sc scope:Scope) (x:Str):Bool :=
 (scope.kind==.function)&&scope.names.all (fun y=>y.2 != .cell)&&scope.names.all (fun y=>y.2 != .local||scope.names.lookup y.1==some .local)&&(scope.names.lookup x==some .local)&&scope.names.all (fun y=>y.2 != .free||sc.names.lookup y.1==some .cell)
theorem bsc {X:Cx} {sc scope:Scope} {x:Str} (e:X.env.scope=sc) (h:nh sc scope x=true):fK X scope x:=by
 unfold nh at h;simp only [Kl,Lf,Bool.or_eq_true,bne_iff_ne,Kg,ne_eq] at h;obtain ⟨⟨⟨⟨h1,h2⟩,h3⟩,h4⟩,h5⟩:=h;exact ⟨h1,fun y hy=>h2 y hy,fun y hy e=>(h3 y hy).resolve_left fun z=>z e,h4,fun y hy e'=>by rw [e];exact (h5 y hy).resolve_left fun z=>z e'⟩
end L2
namespace L2
open PySem
theorem ao {e:Expr} {es:List Expr} {env:Env} (h:PySem.W.isStarred e=false):starEach (e :: es) env=(false,eval e env) :: starEach es env:=by
 cases e <;> first | rfl | exact absurd h (by simp [PySem.W.isStarred])
theorem bC {pos:Pos} {env:Env}:∀ {es:List Expr},es.all (fun e=>!PySem.W.isStarred e)=true->(backTo pos (starEach es env)).any (·.1)=false
 | [],_=>rfl
 | e :: es,h=>by
  rw [List.all_cons,Kl] at h;rw [ao (by simpa using h.1)];have ih:=bC (pos:=pos) (env:=env) h.2;unfold backTo at ih ⊢;rw [List.map_cons,L4,ih];rfl
structure JE (X:Cx) (e:Expr) (t:TE):Prop where
 h:PE X e t
structure JT (X:Cx) (e:Expr) (t:TT):Prop where
 h:PT X e t
structure JW (X:Cx) (e:Expr) (t:TT):Prop where
 h:PW X e t
structure JA (X:Cx) (es:List Expr) (t:TA):Prop where
 h:PA X es t
structure JS (X:Cx) (s:Stmt) (t:TS):Prop where
 h:PS X s t
structure JSs (X:Cx) (s:List Stmt) (t:TS):Prop where
 h:PSs X s t
structure JG (X:Cx) (e:Expr) (t:TG):Prop where
 h:PG X e t
structure JI (X:Cx) (tg e:Expr) (t:TI):Prop where
 h:PI X tg e t
structure JO (X:Cx) (e:Option Expr) (t:TO):Prop where
 h:PO X e t
structure JC (X:Cx) (N:List Str) (scope:Scope) (e:Expr) (t:TE):Prop where
 h:∀ C s3 H3 ex,PE (cxB X N scope C s3 H3 ex) e t
structure JTs (X:Cx) (N:List Str) (scope:Scope) (e:List Expr) (t:TT):Prop where
 h:∀ C s3 H3 ex,PTs (cxB X N scope C s3 H3 ex) e t
structure JP (X:Cx) (pos:Pos) (ks:List (Option Expr)) (vs:List Expr) (t:List (TE×TE)):Prop where
 h:PPs X pos ks vs t
section
variable {X:Cx} {e a b c:Expr} {es rest:List Expr} {te ta tb tc:TE} {tA tB':TT} {t:TA} {x:Str} {p pos:Pos} {id T:String} {r:List V->Hp->VK->Prop} {CX:CXT} {k:Nat} {f:Addr} {fd:FuncData} {ps:List Str} {sp:Sp} {ds:List Value} {dvs:List V} {E:XK}
theorem oO (i:Nat) (hN:X.N[i]?=some x) (hv:Vis X.env.scope x) (hd:(x==("__debug__" : Str))=false) (hcd:(x==("__classdict__" : Str))=false):JE X (.Name x pos) (kX i):=⟨wY hN hv hd hcd⟩
theorem au {i j}:JE X (.Constant (.int i) j pos) (tC (.int i)):=⟨BW⟩
theorem eBl {b j}:JE X (.Constant (.bool b) j pos) (tC (.bl b)):=⟨GB⟩
theorem vW {j}:JE X (.Constant .none j pos) (tC .non):=⟨Cw⟩
theorem aB {x j}:JE X (.Constant (.str x) j pos) (tC (.str x)):=⟨Dz⟩
theorem aj:JA X [] gp:=⟨qd⟩
theorem eA (ha:JE X e te) (hr:JA X es t) (h:PySem.W.isStarred e=false):JA X (e :: es) (aR te t):=⟨jC ha.h hr.h (ao h)⟩
theorem Cj (F:br X.prog X.w X.K X.mg X.base CX k f fd ps sp) (hr:cq k X.A) (hg:Gl X x) (hm:X.mg x=some (.ref f)) (hk:PySem.W.keepIn X.K (.ref f)=true) (hb:Binds X.K fd ps ds) (hd:Vals dvs ds) (hx:Passes CX X E)
  (ha:JA X (e :: es) t) (h1:PySem.W.isStarred e=false) (h2:es.all (fun e=>!PySem.W.isStarred e)=true) (hdb:(x==("__debug__" : Str))=false):JE X (.Call (.Name x p) (e :: es) [] pos) (j5 sp dvs E t) :=
 ⟨yB F hr hg hm hk hb hd hx ha.h hdb (ao h1) (bC h2)⟩
theorem eB (hc:aJ X (.builtin id) r) (hg:Gl X x) (hm:X.mg x=none) (hv:bootBuiltins x=some (.builtin id)) (ha:JA X (e :: es) t) (h1:PySem.W.isStarred e=false) (h2:es.all (fun e=>!PySem.W.isStarred e)=true)
  (hn:x ≠ "__name__") (hdb:(x==("__debug__" : Str))=false):JE X (.Call (.Name x p) (e :: es) [] pos) (tCB r t):=⟨n6 hc hg hm hv ha.h hn hdb (ao h1) (bC h2)⟩
theorem eTy (hc:aJ X (.type T) r) (hg:Gl X x) (hm:X.mg x=none) (hv:bootBuiltins x=some (.type T)) (ha:JA X (e :: es) t) (h1:PySem.W.isStarred e=false) (h2:es.all (fun e=>!PySem.W.isStarred e)=true)
  (hn:x ≠ "__name__") (hdb:(x==("__debug__" : Str))=false):JE X (.Call (.Name x p) (e :: es) [] pos) (tCB r t):=⟨qf hc hg hm hv ha.h hn hdb (ao h1) (bC h2)⟩
theorem eR1 {tg a:Expr} {ta:TA} (hg:Gl X "range") (hm:X.mg "range" = none) (ha:JA X [a] ta) (h:PySem.W.isStarred a=false):JI X tg (.Call (.Name "range" p) [a] [] pos) (yf ta):=⟨qZ hg hm ha.h (ao h)⟩
theorem eIL {tg:Expr} (h:JE X e te):JI X tg e (uD X.K te):=⟨rh h.h⟩
theorem eIT {tg:Expr} (h:JE X e te):JI X tg e (DM X.K te):=⟨vO h.h⟩
theorem eIS {y:Str} {py:Pos} (h:JE X e te):JI X (.Name y py) e (GP te):=⟨zP h.h⟩
theorem xm {v:V} {u:Value} (hg:Gl X x) (hm:X.mg x=some u) (r:RelV v u) (hd:(x==("__debug__" : Str))=false):JE X (.Name x pos) (tC v):=⟨lX hg hm r hd⟩
theorem Ec {v:V} {u:Value} (hg:Gl X x) (hm:X.mg x=none) (hv:bootBuiltins x=some u) (r:RelV v u) (hn:x ≠ "__name__") (hd:(x==("__debug__" : Str))=false):JE X (.Name x pos) (tC v):=⟨iM hg hm hv r hn hd⟩
theorem eOp {op:Operator} {r:R2} (ho:OpR X (binaryOp op) r) (ha:JE X a ta) (hb:JE X b tb):JE X (.BinOp a op b pos) (tOp r ta tb):=⟨GJ ho ha.h hb.h⟩
theorem eUn {op:UnaryOp} {r:V->Hp->VK->Prop} (ho:UnR X (unaryOp op) r) (ha:JE X a ta):JE X (.UnaryOp op a pos) (tUn r ta):=⟨EX ho ha.h⟩
theorem Hm (ha:JE X a ta):JE X (.UnaryOp .Not a pos) (xq ta):=⟨zQ ha.h⟩
theorem zV {op} (h:JE X a te):JE X (.BoolOp op [a] pos) te:=⟨Aj h.h⟩
theorem zE (ha:JE X a ta) (hb:JE X (.BoolOp .And (b :: rest) pos) tb):JE X (.BoolOp .And (a :: b :: rest) pos) (yp ta tb):=⟨BJ ha.h hb.h⟩
theorem eOr (ha:JE X a ta) (hb:JE X (.BoolOp .Or (b :: rest) pos) tb):JE X (.BoolOp .Or (a :: b :: rest) pos) (EK ta tb):=⟨FO ha.h hb.h⟩
theorem wA {op:CmpOp} {r:R2} (ho:OpR X (compareOp op) r) (ha:JE X a ta) (hb:JE X b tb) (hm:behindInMarks op b=false):JE X (.Compare a [op] [b] pos) (tOp r ta tb):=⟨ya ho ha.h hb.h hm⟩
theorem yY {op:CmpOp} {r:R2} (ho:OpR X (compareOp op) r) (ha:JE X a ta) (hb:JE X b tb) (hm:behindInMarks op b=false):JT X (.Compare a [op] [b] pos) (mQ (tOp r ta tb)):=⟨yi ho ha.h hb.h hm⟩
theorem AS {op op':CmpOp} {r r':R2} (ho:OpR X (compareOp op) r) (ho':OpR X (compareOp op') r') (ha:JE X a ta) (hb:JE X b tb) (hc:JE X c tc) (hm:lastMarks [op,op'] [b,c]=false):JE X (.Compare a [op,op'] [b,c] pos) (kY r r' ta tb tc):=⟨uK ho ho' ha.h hb.h hc.h hm⟩
theorem xQ {op op':CmpOp} {r r':R2} (ho:OpR X (compareOp op) r) (ho':OpR X (compareOp op') r') (ha:JE X a ta) (hb:JE X b tb) (hc:JE X c tc) (hm:lastMarks [op,op'] [b,c]=false):JT X (.Compare a [op,op'] [b,c] pos) (mQ (kY r r' ta tb tc)):=⟨vB ho ho' ha.h hb.h hc.h hm⟩
theorem IL (h:JE X e te) (he:∀ whole,isTrue e X.env whole=(do let v<-whole;standAt e.pos;holding [v] (truthy v))):JT X e (tB te):=⟨BO h.h he⟩
theorem gO (ha:JT X a tA):JT X (.UnaryOp .Not a pos) (Eh tA):=⟨Cr ha.h⟩
theorem oA (ha:JT X a tA):JW X (.BoolOp .And [a] pos) tA:=⟨pw_and1 ha.h⟩
theorem mz (ha:JT X a tA):JW X (.BoolOp .Or [a] pos) tA:=⟨pw_or1 ha.h⟩
theorem uA (ha:JT X a tA) (hb:JW X (.BoolOp .And (b :: rest) pos) tB'):JW X (.BoolOp .And (a :: b :: rest) pos) (ES tA tB'):=⟨pw_and ha.h hb.h⟩
theorem xa (ha:JT X a tA) (hb:JW X (.BoolOp .Or (b :: rest) pos) tB'):JW X (.BoolOp .Or (a :: b :: rest) pos) (tOr tA tB'):=⟨pw_or ha.h hb.h⟩
theorem eW (h:JW X e tA):JT X e tA:=⟨PW.pt h.h⟩
theorem jb {x1} (h:JA X es t):JE X (.Tuple es x1 pos) (DU t):=⟨AU h.h⟩
theorem jm (h:JA X es t):JE X (.List es pos) (yL t):=⟨Be h.h⟩
theorem eIx {r:R2} (hr:IxR X r) (ha:JE X a ta) (hb:JE X b tb) (hs:mP b):JE X (.Subscript a b pos) (tOp r ta tb):=⟨EJ hr ha.h hb.h hs⟩
theorem Bt:JO X none qc:=⟨yQ⟩
theorem eP (h:JE X e te):JO X (some e) (Du te):=⟨yD h.h⟩
theorem eSl {p2:Pos} {lo hi:Option Expr} {tl th:TO} {r:V->Option Int->Option Int->Hp->VK->Prop} (hr:SlR X r) (he:JE X e te) (hl:JO X lo tl) (hu:JO X hi th):JE X (.Subscript e (.Slice lo hi none p2) pos) (tSl r te tl th):=⟨uU hr he.h hl.h hu.h⟩
theorem ePN:JP X pos [] [] []:=⟨zd⟩
theorem ePC {k v:Expr} {ks:List (Option Expr)} {vs:List Expr} {tk tv:TE} {trs:List (TE×TE)} (hk:JE X k tk) (hv:JE X v tv) (hr:JP X pos ks vs trs):JP X pos (some k :: ks) (v :: vs) ((tk,tv) :: trs):=⟨uP hk.h hv.h hr.h⟩
theorem AM {i:Nat} {pos':Pos} (he:JE X e te) (hN:X.N.Nodup) (hi:X.N[i]?=some x) (hx:Loc X.env.scope x) (hs:swapsWith e (some (.Name x pos')) pos.line X.env=pure false) (hf:X.fn x=true\/X.env.scope.names.lookup x=some .local) :
  JS X (.Assign [.Name x pos'] e pos) (kN te (bQ i)):=⟨BY hN hi hx he.h hs hf⟩
theorem Iw {iter tg:Expr} {body:List Stmt} {wi:TI} {g:TG} {tb:TS} (hi:JI X tg iter wi) (hg:JG X tg g) (hb:JSs X body tb) (hp:PassesOwn (model X.prog X.w) X.A X.env X.xe) (hc:X.calm=true) (hs:∀ x,foldedSetIterable iter X.env x=pure x):JS X (.For tg iter body [] pos) (A3 wi g tb):=⟨CF hp hc hi.h hg.h hb.h hs⟩
theorem BC {c:Expr} {body:List Stmt} {tc:TT} {tb:TS} (hc:JT X c tc) (hb:JSs X body tb) (hp:PassesOwn (model X.prog X.w) X.A X.env X.xe):JS X (.While c body [] pos) (se tc tb):=⟨vA hp hc.h hb.h⟩
theorem eZ {a b:List Stmt} {tc:TT} {t u:TS} (hc:JT X c tc) (ha:JSs X a t) (hb:JSs X b u):JS X (.If c a b pos) (zg tc t u):=⟨Ej hc.h ha.h hb.h⟩
theorem bD (he:JE X e te):JS X (.Return (some e) pos) (yq te):=⟨CS he.h⟩
theorem eGN {i:Nat} (hN:X.N.Nodup) (hi:X.N[i]?=some x) (hx:Loc X.env.scope x) (hf:X.fn x=true\/X.env.scope.names.lookup x=some .local):JG X (.Name x pos) (bQ i):=⟨mG hN hi hx hf⟩
theorem C0 (he:JE X e te) (hs:swapsWith e none pos.line X.env=pure false):JS X (.Expr e pos) (yJ te):=⟨yP he.h hs⟩
theorem fF:JSs X [] pN:=⟨zo⟩
theorem aX {s:Stmt} {t:TS} (h:JS X s t):JSs X [s] t:=⟨yE h.h⟩
theorem aP {s:Stmt} {rest:List Stmt} {t u:TS} (h:JS X s t) (hr:JSs X rest u):JSs X (s :: rest) (wk t u):=⟨u7 h.h hr.h⟩
theorem FV {elt iter:Expr} {px:Pos} {ifs:List Expr} {scope:Scope} {wi:TI} {tt:TT} {js:List Nat} (ys:List Str) (hi:JI X (.Name x px) iter wi) (ht:JTs X (x :: ys) scope ifs tt) (he:JC X (x :: ys) scope elt te)
  (hc:X.calm=true) (B:fK X scope x) (nd:(x :: ys).Nodup) (cap:eH X scope ys js) (hs:∀ x,foldedSetIterable iter X.env x=pure x):JE X (.ListComp elt [⟨.Name x px,iter,ifs,0⟩] scope pos) (oI js wi tt te):=⟨yS hc hi.h B nd cap ht.h he.h hs⟩
theorem Ck {elt iter:Expr} {y:Str} {px py spos:Pos} {ifs:List Expr} {scope:Scope} {wi:TI} {tt:TT} {js:List Nat} {i:Nat} (ys:List Str) (hi:JI X (.Name x px) iter wi) (ht:JTs X (x :: ys) scope ifs tt) (he:JC X (x :: ys) scope elt te)
  (hN:X.N.Nodup) (hi':X.N[i]?=some y) (hy:X.env.scope.names.lookup y=some .local) (hsw:swapsWith (.ListComp elt [⟨.Name x px,iter,ifs,0⟩] scope pos) (some (.Name y py)) spos.line X.env=pure true)
  (hc:X.calm=true) (B:fK X scope x) (nd:(x :: ys).Nodup) (cap:eH X scope ys js) (hs:∀ x,foldedSetIterable iter X.env x=pure x):JS X (.Assign [.Name y py] (.ListComp elt [⟨.Name x px,iter,ifs,0⟩] scope pos) spos) (kN (oI js wi tt te) (bQ i)):=⟨yW hN hi' hy hsw hc hi.h B nd cap ht.h he.h hs⟩
theorem eC {N:List Str} {scope:Scope} (h:∀ C s3 H3 ex,JE (cxB X N scope C s3 H3 ex) e te):JC X N scope e te:=⟨fun C s3 H3 ex=>(h C s3 H3 ex).h⟩
theorem eT0 {N:List Str} {scope:Scope}:JTs X N scope [] Fp:=⟨fun _ _ _ _=>yC⟩
theorem eT1 {N:List Str} {scope:Scope} (h:∀ C s3 H3 ex,JT (cxB X N scope C s3 H3 ex) e tA):JTs X N scope [e] tA:=⟨fun C s3 H3 ex=>yT (h C s3 H3 ex).h⟩
theorem eBM {apos cpos:Pos} {o:Expr} {name:Str} {to:TE} {r:V->List V->Hp->VK->Prop} (ho:JE X o to) (ha:JA X (e :: es) t) (hm:MtR X id r) (pa:PlainAttrs T) (slot:Slot T name id) (hty:typeOf (.builtin id)=pure (.type "method_descriptor"))
  (hbase:attributeBase o name X.env (eval o X.env)=eval o X.env)
  (hfew:((backTo cpos (starEach (e :: es) X.env)).all (fun x=>!x.1)&&(backToKw cpos (keywordEach [] X.env)).all (fun x=>x.1.isSome)
   && decide ((e :: es).length+([]:List Keyword).length+(if ([]:List Keyword).isEmpty then 0 else 1) < 30))=true)
  (hline:(apos.endLine==cpos.line)=true) (h1:PySem.W.isStarred e=false) (h2:es.all (fun e=>!PySem.W.isStarred e)=true):JE X (.Call (.Attribute o name apos) (e :: es) [] cpos) (tBM X.K T r to t):=⟨Hc pa slot hty hm ho.h ha.h hbase hfew hline (ao h1) (bC h2)⟩
end
open PySem.Spec PyProof.Rows
noncomputable def tyN:PyData->String
 | .none => "NoneType" | .bool _ => "bool" | .int _ => "int" | .str _ => "str" | .list _ => "list" | .tuple _ => "tuple" | .dict _ => "dict"
noncomputable def isS:PyData->Bool | .str _=>true | _=>false
noncomputable def isI:PyData->Bool | .int _=>true | .bool _=>true | _=>false
noncomputable def isB:PyData->Bool | .bool _=>true | _=>false
noncomputable def isT:PyData->Bool | .tuple _=>true | _=>false
noncomputable def isL:PyData->Bool | .list _=>true | _=>false
section
variable {K:Fg}
theorem F9 (d:PyData):PySem.W.kitOne K (.type (tyN d)) (.type "str")=some (isS d):=by cases d <;> with_unfolding_all rfl
theorem FJ (d:PyData):PySem.W.kitOne K (.type (tyN d)) (.type "int")=some (isI d):=by cases d <;> with_unfolding_all rfl
theorem E6 (d:PyData):PySem.W.kitOne K (.type (tyN d)) (.type "bool")=some (isB d):=by cases d <;> with_unfolding_all rfl
theorem Ce (d:PyData):PySem.W.kitOne K (.type (tyN d)) (.type "tuple")=some (isT d):=by cases d <;> with_unfolding_all rfl
theorem Aw (d:PyData):PySem.W.kitOne K (.type (tyN d)) (.type "list")=some (isL d):=by cases d <;> with_unfolding_all rfl
variable {p:Addr} {H:Hp} {d:PyData} {v:V} {Q:VK}
end
theorem lr {b:Bool} {A B:Prop} (e:b=true) (h:A):if b=true then A else B:=by rw [JB e];exact h
theorem kj {b:Bool} {A B:Prop} (e:b=false) (h:B):if b=true then A else B:=by rw [Jz (by rw [e];exact JL)];exact h
theorem j8 {b:Bool} {A B:Prop} (h1:b=true->A) (h2:b=false->B):if b=true then A else B:=by
 cases b with
 | true=>rw [JB rfl];exact h1 rfl
 | false=>rw [Jz JL];exact h2 rfl
section
variable {r r':R2} {x y:V} {H:Hp} {Q:VK}
theorem Bw {K:Fg} {z:Str} (l:z.length<=sizeLine) (h:Q (.int z.length) H):Bx K [.str z] H Q:=⟨_,_,rfl,⟨l,rfl⟩,h⟩
theorem Cb {K:Fg} {p:Addr} {xs:List V} (s:SqL K H p xs) (h:Q (.int xs.length) H):Bx K [.ref p] H Q:=⟨_,_,rfl,.inl ⟨xs,s,rfl⟩,h⟩
theorem Au {K:Fg} {p:Addr} {xs:List V} (s:SqT K H p xs) (h:Q (.int xs.length) H):Bx K [.ref p] H Q:=⟨_,_,rfl,.inr ⟨xs,s,rfl⟩,h⟩
theorem Gb {i:Int} (h:Q (.int (if i < 0 then -i else i)) H):F3 [.int i] H Q:=⟨i,rfl,h⟩
end
theorem Fun.okJ {P:Program} {w:World} {K:Fg} {mg:Str->Option Value} {base:Heap} {x qual:Str} {st:Stmt} {f:Addr} {fd:FuncData} {N ps:List Str} {k:Nat} {sp:Sp} (F:Fun K x qual st f fd) (S:ag N ps (aa st)) (len:∀ vs H Q E,sp vs H Q E->vs.length=ps.length)
  (hbody:∀ (cdv:Value) (A:Around) (outer:List Env) (s:Shared) (H:Hp) (vs:List V) (Q:VK) (E:XK),cq k (A.deeper (envOfC qual (aa st) s.heap.objs.size f cdv))->sp vs H Q E ->
   ∃ t,JSs (md CX0 P w K mg base N qual (aa st) f cdv A outer s H E).nox (bE st) t/\t { nx:=fun _ H'=>Q .non H',rt:=Q } (start N vs) H):br P w K mg base CX0 (k+1) f fd ps sp :=
 F.ok S len fun cdv A outer s H vs Q E hr h=>let ⟨t,j,q⟩:=hbody cdv A outer s H vs Q E hr h;⟨t,j.h,q⟩
section
variable {X:Cx}
def CV (K:Fg):List V->Hp->VK->Prop:=fun xs H Q=>∃ p ys,xs=[.ref p]/\(SqL K H p ys\/SqT K H p ys)/\∀ l,H l=none->Q (.ref l) (upd H l (.lst ys))
def vR (K:Fg):List V->Hp->VK->Prop:=fun xs H Q=>∃ p ys,xs=[.ref p]/\((SqL K H p ys/\∀ l,H l=none->Q (.ref l) (upd H l (.tup ys)))\/(SqT K H p ys/\Q (.ref p) H))
def Hn:R2:=fun x y H Q=>y=.non/\Q (.bl (decide (x=.non))) H
theorem oP:aJ X (.type "list") (CV X.K):=lE
theorem lU:aJ X (.type "tuple") (vR X.K):=j6
theorem xV:OpR X (compareOp .Is) Hn:=AO
end
noncomputable def qQ (xs:List Str):St:=xs.map fun _=>none
def AN (n:List Str) (js:List Nat) (wi:TI) (g:TG) (te:TE):TE:=fun σ H Q=>wi σ H fun J H1=>∃ W:Nat->Nat->St->List V->Hp->Prop,(∃ m,W 0 m (qQ n++ba js σ) [] H1)/\∀ i m σB acc H,W i m σB acc H ->
 (J.stop i H/\acc.length<=sizeLine/\∀ p,H p=none->Q (.ref p) (upd H p (.lst acc)))\/(J.go i H/\acc.length < sizeLine/\∀ x H',J.yld i H x H' ->
  g x σB H' fun σ2 H2=>te σ2 H2 fun y H3=>∃ m',m' < m/\W (i+1) m' σ2 (acc++[y]) H3)
def Iq (K:Fg) (te:TE):TT:=fun σ H Q=>te σ H fun x H'=>∃ k,Em K x H' k/\Q k H'
section
variable {X:Cx}
def tFs:List TE->Str->TE
 | [],out=>fun _ H Q=>out.length<=sizeLine/\Q (.str out) H
 | t :: ts,out=>fun σ H Q=>t σ H fun x H1=>∃ y,x=.str y/\(out++y).length<=sizeLine/\tFs ts (out++y) σ H1 Q
def PFs (X:Cx) (vs:List Expr) (ts:List TE):Prop :=
 ∀ (pins:List (Addr×Obj)) (s:Shared) (σ:St) (H:Hp) (Q:VK) (out:Str),Inv X pins σ H s->tFs ts out σ H Q->wpAny (model X.prog X.w) X.A (joinParts out (evalEach vs X.env)) (EP X pins σ Q) X.xe s
theorem xw:PFs X [] []:=by
 intro pins s σ H Q out I h;exact joinParts_nil ⟨.str out,H,I.tok _,⟨_,rfl⟩,h.2⟩ h.1
theorem uS {v:Expr} {vs:List Expr} {t:TE} {ts:List TE} (hv:PE X v t) (hr:PFs X vs ts):PFs X (v :: vs) (t :: ts):=by
 intro pins s σ H Q out I h;show wpAny _ _ (joinParts out (eval v X.env :: evalEach vs X.env)) _ _ s;refine joinParts_cons (thn (hv pins s σ H _ I h) fun u s1 ⟨x,H1,I1,r1,y,ex,hz,q⟩=>?_);subst ex;obtain ⟨t',rfl⟩:=r1;exact ⟨hz,hr pins s1 σ H1 Q _ I1 q⟩
end
structure JF (X:Cx) (vs:List Expr) (ts:List TE):Prop where
 h:PFs X vs ts
section
variable {X:Cx}
theorem eF0:JF X [] []:=⟨xw⟩
theorem eFc {v:Expr} {vs:List Expr} {t:TE} {ts:List TE} (hv:JE X v t) (hr:JF X vs ts):JF X (v :: vs) (t :: ts):=⟨uS hv.h hr.h⟩
end
section
variable {X:Cx}
def Az (K:Fg):R2:=fun x y H Q=>∃ l b xs zs,x=.ref l/\y=.ref b/\SqL K H l xs/\SqL K H b zs/\xs.length+zs.length<=sizeLine/\∀ p,H p=none->Q (.ref p) (upd H p (.lst (xs++zs)))
theorem xP:OpR X (binaryOp .Add) (Az X.K):=by
 intro pins s σ H x y v u Q I rx ry h;obtain ⟨l,b,xs,zs,rfl,rfl,hH,hB,hz,q⟩:=h;cases rx;cases ry;obtain ⟨its,r,p,_⟩:=I.list hH;obtain ⟨its2,r2,p2,_⟩:=I.list hB;obtain ⟨⟨cls,dd,data,sl⟩,n,ho,hc,hd0,hd⟩:=p;obtain ⟨⟨cls2,dd2,data2,sl2⟩,n2,ho2,hc2,hd02,hd2⟩:=p2;simp only at hc hd hc2 hd2;subst hc hd hc2 hd2;have e:its.toArray++its2.toArray=(its++its2).toArray:=by simp
 refine concat_meets ⟨_,ho,rfl⟩ ⟨_,ho2,rfl⟩ noFill_list_add seq_list_add PySem.F.slot_list_add PySem.F.entry_list_add (PySem.F.args_list_add_2 _ _) (list_addW l b its.toArray its2.toArray n n2 dd dd2 sl sl2 (by rw [JR,JR,<-r.length,<-r2.length];exact hz)) ⟨ho,ho2,?_⟩;rw [e];exact ⟨.ref _,_,I.Hj (t':=s.toks) (r.append r2) (by rw [Jr];omega),rfl,q _ I.fresh⟩
end
mutual
noncomputable def hkB:PyData->Bool
 | .int _=>true
 | .str _=>true
 | .tuple ds=>uo ds
 | _=>false
noncomputable def uo:List PyData->Bool
 | []=>true
 | d :: ds=>hkB d&&uo ds
end
theorem jV:∀ {ds:List PyData},uo ds=true↔∀ d∈ds,hkB d=true
 | []=>by simp [uo]
 | d :: ds=>by simp [uo,jV (ds:=ds)]
noncomputable def kyB (d:PyData):Bool:=hkB d&&d.canLay0&&decide (d.depth<=6)
noncomputable def hk6 (d:PyData):Bool:=hkB d&&decide (d.depth<=6)
mutual
theorem ee:∀ (d e:PyData),hkB d=true->hkB e=true->(PyData.eqv d e=true↔d=e)
 | .int i,e,_,h=>by
  cases e with
  | int j=>simp [PyData.eqv]
  | str y=>simp [PyData.eqv]
  | tuple es=>simp [PyData.eqv]
  | _=>cases h
 | .str x,e,_,h=>by
  cases e with
  | int j=>simp [PyData.eqv]
  | str y=>simp [PyData.eqv]
  | tuple es=>simp [PyData.eqv]
  | _=>cases h
 | .tuple ds,e,h1,h=>by
  cases e with
  | int j=>simp [PyData.eqv]
  | str y=>simp [PyData.eqv]
  | tuple es=>simp only [PyData.eqv,PyData.tuple.injEq];exact qy ds es h1 h
  | _=>cases h
 | .none,_,h,_=>by cases h
 | .bool _,_,h,_=>by cases h
 | .list _,_,h,_=>by cases h
 | .dict _,_,h,_=>by cases h
theorem qy:∀ (ds es:List PyData),uo ds=true->uo es=true->(PyData.eqvAll ds es=true↔ds=es)
 | [],[],_,_=>by simp [PyData.eqvAll]
 | [],_ :: _,_,_=>by simp [PyData.eqvAll]
 | _ :: _,[],_,_=>by simp [PyData.eqvAll]
 | d :: ds,e :: es,h1,h2=>by
  simp only [uo,Kl] at h1 h2;rw [PyData.eqvAll,Kl,ee d e h1.1 h2.1,qy ds es h1.2 h2.2,List.cons.injEq]
end
theorem lp {d:PyData} {ds:List PyData} (h:d∈ds):d.depth+1<=(PyData.tuple ds).depth:=by
 have:∀ {ds:List PyData},d∈ds->d.depth<=PyData.depthAll ds:=by
  intro ds;induction ds with
  | nil=>intro h;cases h
  | cons x xs ih =>
   intro h;rw [PyData.depthAll];rcases JV.mp h with rfl | h
   ·exact Nat.le_max_left _ _
   ·exact Ka (ih h) (Nat.le_max_right _ _)
 rw [PyData.depth];have:=this h;omega
theorem fT {h:Heap}:∀ {vs:List Value} {ds:List PyData} {as:List Addr},ReadsAll h vs ds as->vs.length=ds.length/\∀ (i:Nat) (v:Value),vs[i]?=some v->∃ d bs,ds[i]?=some d/\Reads h v d bs
 | _,_,_,.nil=>⟨rfl,fun i v e=>by simp at e⟩
 | _,_,_,.cons r t=>by
  obtain ⟨l,f⟩:=fT t;refine ⟨by simp [l],fun i v e=>?_⟩;cases i with
  | zero=>simp at e;subst e;exact ⟨_,_,rfl,r⟩
  | succ i=>simpa using f i v (by simpa using e)
section
variable {P:Program} {w:World} {A:Around} {E:Value->Shared->Prop} {s:Shared}
theorem tI:∀ (n:Nat) {d:PyData} {v:Value} {as:List Addr} {Q:Bool->Shared->Prop},Reads s.heap v d as->hkB d=true->d.depth<=n->Q true s->wpAny (model P w) A (eqIsQuiet n v) Q E s:=by
 intro n;induction n with
 | zero =>
  intro d v as Q r h hd q;cases r with
  | int i t=>rw [eqIsQuiet_byValue _ rfl];exact Jw q
  | str x t=>rw [eqIsQuiet_byValue _ rfl];exact Jw q
  | tuple _ _ _ _=>rw [PyData.depth] at hd;omega
  | _=>cases h
 | succ n ih =>
  intro d v as Q r h hd q;cases r with
  | int i t=>rw [eqIsQuiet_byValue _ rfl];exact Jw q
  | str x t=>rw [eqIsQuiet_byValue _ rfl];exact Jw q
  | @tuple a o vs k xs as ho hc hdt ra =>
   have hT:s.TypeIs (.ref a) "tuple" := ⟨o,ho,hc⟩;unfold eqIsQuiet;refine Jp (Mb hT F.slot_tuple_eq.lookup ?_);show wpAny _ _ (isInstance (.ref a) (.type "tuple")>>=_) _ _ s;refine Jp (wpAny_isInstance hT isSubtype_tuple_tuple ?_);simp only [Bool.not_true,K5,Lh];refine Jp (wpAny_seqItems ho hdt (Jp ?_));show wpAny _ _ (forIn vs _ _) _ _ s;rw [<- Array.forIn_toList];have hx:=jV.mp h;refine LH _ (fun rest r s'=>r.1=none/\s'=s/\∀ u∈rest,u∈vs.toList) _ ?_ ?_ _ _ ⟨rfl,rfl,fun _ z=>z⟩
   ·rintro u rest r s' ⟨hr,rfl,hall⟩;obtain ⟨i,hi⟩:=K7.mp (hall u Jy);obtain ⟨d',bs,e1,r1⟩:=(fT ra).2 i u hi;have hm:=J5 e1;refine Jp (ih r1 (hx d' hm) (by have:=lp hm;omega) ?_);simp only [Bool.not_true,K5,Lh];exact Jw ⟨rfl,rfl,fun y hy=>hall y (JJ _ hy)⟩
   ·rintro ⟨r1,r2⟩ s' ⟨hr,rfl,_⟩;simp only at hr;subst hr;exact Jw q
  | _=>cases h
theorem ui:∀ (n:Nat) {A:Around} {s:Shared} {E:Value->Shared->Prop} {d:PyData} {v:Value} {as:List Addr} {Q:Int->Shared->Prop},Reads s.heap v d as->hkB d=true->d.depth<=n->A.units+n < cLine ->
  (∀ t,Q (bJ w d) { s with toks:=t })->wpAny (model P w) A (pyHash v) Q E s:=by
 intro n;induction n with
 | zero =>
  intro A s E d v as Q r h hd hu q;cases r with
  | int i t=>exact wpAny_pyHash_int (q _)
  | str x t=>exact wpAny_pyHash_str (q _)
  | tuple _ _ _ _=>rw [PyData.depth] at hd;omega
  | _=>cases h
 | succ n ih =>
  intro A s E d v as Q r h hd hu q;cases r with
  | int i t=>exact wpAny_pyHash_int (q _)
  | str x t=>exact wpAny_pyHash_str (q _)
  | @tuple a o vs k xs as ho hc hdt ra =>
   have hT:s.TypeIs (.ref a) "tuple" := ⟨o,ho,hc⟩;have hx:=jV.mp h;unfold pyHash;first | unfold pyHashByItsType | skip
   first | refine Jp (wpAny_cRoomFor_or (.inr (by omega)) ?_) | skip
   refine Jp (Mb hT F.slot_tuple_hash.lookup ?_);show wpAny _ _ (if (some (Value.builtin "tuple.__hash__")==some Value.none)=true then _ else _) Q E s;rw [Jz (by rw [beq_builtin_none];exact JL)];refine Jp (Mb hT F.slot_tuple_hash.lookup ?_);show wpAny _ _ (callSpecialIfBoundUnlessNone? (.ref a) "__hash__" _>>=_) Q E s;refine Jp (wpAny_callSpecialIfBoundUnlessNone?_slot hT F.slot_tuple_hash (K1 F.slot_tuple_hash hT F.entry_tuple_hash ?_ (F.args_tuple_hash_1 _)));show wpAny _ _ (Builtin.Tuple.tupleItemsOf (.ref a)>>=_) _ _ s;refine Jp (wpAny_tupleItemsOf ho hdt (Jp ?_));rw [<- Array.forIn_toList];have hap:∀ (l m:List PyData),bW w (l++m)=bW w l++bW w m:=by
    intro l m;induction l with
    | nil=>rfl
    | cons x l ihl=>rw [L7,bW,bW,ihl];rfl
   refine LH _ (fun rest (b:Array Int) s'=>∃ i,rest=vs.toList.drop i/\b.toList=bW w (xs.take i)/\∃ t,s'={ s with toks:=t }) _ ?_ ?_ _ _ ⟨0,rfl,rfl,_,rfl⟩
   ·rintro u rest b s' ⟨i,hr,hb,t,rfl⟩;have hi:vs.toList[i]?=some u:=by
     have:(vs.toList.drop i)[0]?=some u:=by rw [<- hr];rfl
     simpa using this
    obtain ⟨d',bs,e1,r1⟩:=(fT ra).2 i u hi;have hm:=J5 e1;refine Jp (ih (s:={ s with toks:=t }) r1 (hx d' hm) (by have:=lp hm;omega) (by have:A.in1.units=A.units+1:=rfl;omega) fun t'=>?_);have nx:rest=vs.toList.drop (i+1)/\(b.push (bJ w d')).toList=bW w (xs.take (i+1))/\∃ t'',({ s with toks:=t' }:Shared)={ s with toks:=t'' }:=by
     refine ⟨?_,?_,_,rfl⟩
     ·have:=congrArg List.tail hr;simpa [List.tail_drop] using this
     ·rw [List.take_add_one,e1,hap,Array.toList_push,hb];rfl
    first
     | exact Jw ⟨i+1,nx⟩
     | exact Jp (Jw (Jw ⟨i+1,nx⟩))
   ·rintro b s' ⟨i,hr,hb,t,rfl⟩;have hi:vs.toList.length<=i:=by
     have:=congrArg List.length hr;simp at this;simpa using (by omega:vs.size<=i)
    rw [KL (by rw [<- (fT ra).1];exact hi)] at hb;show wpAny _ _ (retInt (Builtin.Tuple.tupleHashOf b.toList)) _ _ _;rw [hb];refine wpAny_ret_mkInt ?_;have q':=q;rw [bJ] at q';unfold reduceHash at q';show wpAny _ _ (if (decide (-(2:Int) ^ 63<=Builtin.Tuple.tupleHashOf (bW w xs))&&decide (Builtin.Tuple.tupleHashOf (bW w xs) < 2 ^ 63))=true then _ else _) Q E _;by_cases hc:(decide (-(2:Int) ^ 63<=Builtin.Tuple.tupleHashOf (bW w xs))&&decide (Builtin.Tuple.tupleHashOf (bW w xs) < 2 ^ 63))=true
    ·rw [JB hc];rw [JB hc] at q';exact Jw (q' _)
    ·rw [Jz hc];rw [Jz hc] at q';exact Jp (KW (Jw (q' _)))
  | _=>cases h
end
open PySem PySem.Spec PyProof.Rows
theorem aq {d:PyData}:kyB d=true↔hkB d=true/\d.canLay0=true/\d.depth<=6:=by simp [kyB,and_assoc]
section
variable {P:Program} {w:World} {A:Around} {E:Value->Shared->Prop} {s:Shared}
structure x9 (w:World) (h:Heap) (es:Array DictEntry) (ks:List PyData):Prop where
 len:es.size=ks.length
 nd:ks.Nodup
 at_:∀ (j:Nat) (k:PyData),ks[j]?=some k->kyB k=true/\∃ e bs,es[j]?=some e/\e.hash=bJ w k/\Reads h e.key k bs
theorem x9.at' {h:Heap} {es:Array DictEntry} {ks:List PyData} (N:x9 w h es ks) {j:Nat} {e:DictEntry} (he:es[j]?=some e):∃ k bs,ks[j]?=some k/\kyB k=true/\e.hash=bJ w k/\Reads h e.key k bs:=by
 have hj:j < ks.length:=by rw [<- N.len];exact (Array.getElem?_eq_some_iff.mp he).1
 obtain ⟨a,e',bs,b,c,r⟩:=N.at_ j _ (Jq hj);rw [he] at b;cases b;exact ⟨_,bs,Jq hj,a,c,r⟩
theorem x9.one {h:Heap} {es:Array DictEntry} {ks:List PyData} (N:x9 w h es ks) {i j:Nat} {k:PyData} (hi:ks[i]?=some k) (hj:ks[j]?=some k):i=j :=
 (List.getElem?_inj (Js.mp hi).1 N.nd).mp (hi.trans hj.symm)
theorem zf {key key':Value} {k k':PyData} {as bs:List Addr} (hu:A.units+6 < cLine) (r:Reads s.heap key k as) (r':Reads s.heap key' k' bs) (h:kyB k=true) (h':kyB k'=true):SeqAt.EqAt A s key' key (PyData.eqv k' k):=by
 rw [aq] at h h';exact SeqAt.eqAt_reads k' k A s key' key bs as r' r h'.2.1 h.2.1 (by have:=Nat.min_le_right k'.depth k.depth;omega)
theorem A0 {key:Value} {k:PyData} {as:List Addr} {st:List Value} {Q:Bool->Shared->Prop} (r:Reads s.heap key k as) (h:kyB k=true) (hst:∀ v∈st,∃ k' bs,Reads s.heap v k' bs/\kyB k'=true) (q:Q false s) :
  wpAny (model P w) A (tableMayTell key st) Q E s:=by
 rw [aq] at h;unfold tableMayTell;split
 ·exact Jw q
 ·refine Jp (tI 8 r h.1 (by omega) ?_);rw [Jz (by simp)];refine Jp (LH _ (fun rest b s'=>s'=s/\b=(none,())/\∀ v∈rest,v∈st) _ ?_ ?_ _ _ ⟨rfl,rfl,fun _ z=>z⟩)
  ·rintro v rest b s' ⟨rfl,rfl,hr⟩;obtain ⟨k',bs,r',h'⟩:=hst v (hr v Jy);rw [aq] at h';refine Jp (tI 8 r' h'.1 (by omega) ?_);rw [Jz (by simp)];exact Jw ⟨rfl,rfl,fun v hv=>hr v (JJ _ hv)⟩
  ·rintro b s' ⟨rfl,rfl,_⟩;exact Jw q
theorem ud {h:Heap} {v:Value} {x:Str} {as:List Addr} (r:Reads h v (.str x) as):∃ t,v=.str x t:=by cases r;exact ⟨_,rfl⟩
theorem mH {h:Heap} {v:Value} {x:Str} {k:PyData} {as:List Addr} (r:Reads h v k as) (hk:hkB k=true) (hp:v.isStr x=true):k=.str x:=by
 cases r with
 | str y t=>simp [Value.isStr] at hp;simp [hp]
 | int i t=>simp [Value.isStr] at hp
 | tuple _ _ _ _=>simp [Value.isStr] at hp
 | _=>cases hk
theorem qM {α:Type} {c:Prop} [Decidable c] {x y:Sem α} {Q:α->Shared->Prop} (hx:wpAny (model P w) A x Q E s) (hy:wpAny (model P w) A y Q E s):wpAny (model P w) A (if c then x else y) Q E s:=by
 split
 ·exact hx
 ·exact hy
theorem Ct {α:Type} {c:Prop} [Decidable c] {m:Sem Bool} {f:Bool->Sem α} {Q:α->Shared->Prop} (hm:∀ Q':Bool->Shared->Prop,Q' false s->wpAny (model P w) A m Q' E s) (h:wpAny (model P w) A (f false) Q E s) :
  wpAny (model P w) A (if c then (pure false:Sem Bool)>>=f else m>>=f) Q E s:=qM (Jp (Jw h)) (Jp (hm _ h))
theorem ub {d:Addr} {o:Obj} {es:Array DictEntry} {ep:Nat} {ks:List PyData} {k:PyData} {key:Value} {as:List Addr} {Q:Option Nat->Shared->Prop}
  (hu:A.units+6 < cLine) (hk:Reads s.heap key k as) (hky:kyB k=true) (ho:s.heap.get? d=some o) (hd:o.data=.dict es ep) (N:x9 w s.heap es ks)
  (hnone:(∀ j:Nat,ks[j]?≠some k)->Q none s) (hsome:∀ j:Nat,ks[j]?=some k->Q (some j) s):wpAny (model P w) A (dictFind d key (bJ w k)) Q E s:=by
 have hk3:=aq.mp hky;have hsz:=N.len;have hash_at:∀ j:Nat,ks[j]?=some k->((es[j]?.map (·.hash))==some (bJ w k))=true:=fun j hj=>by
  obtain ⟨_,e,bs,he,hh,_⟩:=N.at_ j k hj;rw [he];simp [hh]
 have same:∀ {k'},kyB k'=true->(PyData.eqv k' k=true↔k'=k):=fun h'=>ee _ _ (aq.mp h').1 hk3.1;have done:∀ i:Nat,i<=es.size->(∀ j:Nat,j < i->ks[j]?≠some k)->[]=(List.range' i (es.size - i)).filter (fun i=>(es[i]?.map (·.hash))==some (bJ w k))->∀ j:Nat,ks[j]?≠some k:=by
  intro i hi hno hr j hj;rcases Nat.lt_or_ge j i with h | h
  ·exact hno j h hj
  ·have hjl:j < es.size:=by rw [hsz];exact (Js.mp hj).1
   have:=List.filter_eq_nil_iff.mp hr.symm j (List.mem_range'_1.mpr ⟨h,by omega⟩);exact this (hash_at j hj)
 have skip:∀ {i x:Nat},(∀ j:Nat,j < i->ks[j]?≠some k)->(∀ j:Nat,i<=j->j < x->((es[j]?.map (·.hash))==some (bJ w k))=false)->∀ j:Nat,j < x->ks[j]?≠some k:=by
  intro i x hno hs j hjx hj;rcases Nat.lt_or_ge j i with h | h
  ·exact hno j h hj
  ·have:=hs j h hjx;rw [hash_at j hj] at this;cases this
 have step:∀ {x:Nat} {k':PyData},ks[x]?=some k'->k'≠k->(∀ j:Nat,j < x->ks[j]?≠some k)->∀ j:Nat,j < x+1->ks[j]?≠some k:=by
  intro x k' hx hne hno j hj hjk;rcases Nat.lt_or_ge j x with h | h
  ·exact hno j h hjk
  ·have:j=x:=by omega
   subst this;rw [hx] at hjk;cases hjk;exact hne rfl
 have plain:wpAny (model P w) A (dictWalkPlain d key (bJ w k) es (placesWithHash es.size (fun i=>es[i]?.map (·.hash)) (bJ w k))) Q E s:=by
  unfold dictWalkPlain
  refine Jp (LH _ (fun rest b s'=>s'=s/\b=(none,())/\∃ i:Nat,rest=(List.range' i (es.size - i)).filter (fun i=>(es[i]?.map (·.hash))==some (bJ w k))/\i<=es.size/\∀ j:Nat,j < i->ks[j]?≠some k) _ ?_ ?_ _ _
   ⟨rfl,rfl,0,by rw [placesWithHash,List.range_eq_range',Nat.sub_zero],KA _,fun _ h=>absurd h (Nat.not_lt_zero _)⟩)
  ·rintro x rest b s' ⟨rfl,rfl,i,hr,hi,hno⟩;obtain ⟨hix,hxn,hpx,hskip,hrest⟩:=filter_range'_cons _ _ _ _ _ hr.symm;have hlt:x < es.size:=by omega
   have hex:es[x]?=some es[x]:=Kw hlt;obtain ⟨k',bs,hkx,hk',hh,hr'⟩:=N.at' hex;have hno':=skip hno hskip;have hrest':rest=(List.range' (x+1) (es.size - (x+1))).filter (fun i=>(es[i]?.map (·.hash))==some (bJ w k)):=by rw [hrest];congr 2;omega
   rw [hex] at hpx ⊢;have hhx:(es[x].hash==bJ w k)=true:=by simpa using hpx
   dsimp only;rw [JB hhx];refine Jp (K9 ho hd (Jp (zf hu hk hr' hky hk' _ _ _ _ (Jp (K9 ho hd ?_)))));rw [Jz (by simp)];by_cases z:k'=k
   ·subst z;rw [(same hky).mpr rfl];first | rw [JB rfl] | skip
    exact Jp (KW (Jw (Jw (hsome x hkx))))
   ·have:PyData.eqv k' k=false:=by
     cases q:PyData.eqv k' k with
     | false=>rfl
     | true=>exact absurd ((same hk').mp q) z
    rw [this];rw [Jz (by simp)];exact Jp (KW (Jw ⟨rfl,rfl,x+1,hrest',hlt,step hkx z hno'⟩))
  ·rintro b s' ⟨rfl,rfl,i,hr,hi,hno⟩;exact Jw (hnone (done i hi hno hr))
 have hst:∀ v∈(placesWithHash es.size (fun i=>es[i]?.map (·.hash)) (bJ w k)).filterMap (fun i=>es[i]?.map (·.key)),∃ k' bs,Reads s.heap v k' bs/\kyB k'=true:=by
  intro v hv;obtain ⟨i,_,hi⟩:=List.mem_filterMap.mp hv;obtain ⟨e,he,rfl⟩:=J7.mp hi;obtain ⟨k',bs,_,h1,_,h2⟩:=N.at' he;exact ⟨k',bs,h2,h1⟩
 unfold dictFind;try with_reducible refine KJ ?_
 refine Jp (La ho hd ?_);have shape:(∃ i t,key=.int i t)\/(∃ x t,key=.str x t/\k=.str x)\/∃ a,key=.ref a:=by
  cases hk with
  | int i t=>exact .inl ⟨i,t,rfl⟩
  | str x t=>exact .inr (.inl ⟨x,t,rfl,rfl⟩)
  | tuple _ _ _ _=>exact .inr (.inr ⟨_,rfl⟩)
  | _=>cases hk3.1
 rcases shape with ⟨i,t,rfl⟩ | ⟨x,t,rfl,ek⟩ | ⟨a,rfl⟩;refine qM plain ?_
 rotate_left
 refine qM ?_ (qM plain ?_)
 ·subst ek;unfold foundByValue;cases hf:es.findIdx? (·.key.isStr x) with
  | none =>
   refine Jw (hnone fun j hj=>?_);obtain ⟨_,e,bs,he,_,r⟩:=N.at_ j _ hj;have:=Array.findIdx?_eq_none_iff.mp hf e (Array.mem_of_getElem? he);obtain ⟨t',e'⟩:=ud r;rw [e'] at this;simp [Value.isStr] at this
  | some i =>
   have hi:=(Array.findIdx?_eq_some_iff_getElem.mp hf);obtain ⟨hlt,hp,_⟩:=hi;have hex:es[i]?=some es[i]:=Kw hlt;obtain ⟨k',bs,hkx,hk',hh,hr'⟩:=N.at' hex;have e1:k'=.str x:=mH hr' (aq.mp hk').1 hp;subst e1;dsimp only;rw [hex];dsimp only;refine Jp (K9 ho hd (Jp (zf hu hk hr' hky hk' _ _ _ _ (Jp (K9 ho hd ?_)))));rw [Jz (by simp),(same hky).mpr rfl];first | rw [JB rfl] | skip
   exact Jp (KW (Jw (hsome i hkx)))
 rotate_left
 refine qM plain ?_;have hany:¬(es.any fun e=>e.key==Value.ref a&&e.hash != bJ w k)=true:=by
  rw [<- Array.any_toList,LJ];rintro ⟨e,hin,hc⟩;obtain ⟨j,hj⟩:=K7.mp hin;obtain ⟨k',bs,_,_,h3,h4⟩:=N.at' (j:=j) (e:=e) (by simpa using hj);simp only [Kl,Kg,bne_iff_ne,ne_eq] at hc;rw [hc.1] at h4;exact hc.2 (by rw [h3,(PySem.Reads.unique h4 _ _ hk).1])
 dsimp only;rw [Jz hany]
 all_goals
  refine Ct (fun Q' q=>A0 hk hky hst q) ?_;try dsimp only
  rw [Jz (by simp)]
  refine Jp (LH _ (fun rest b s'=>s'=s/\∃ (i:Nat) (hit:Option Nat),b=(none,hit)/\rest=(List.range' i (es.size - i)).filter (fun i=>(es[i]?.map (·.hash))==some (bJ w k))/\i<=es.size /\
    ((hit=none/\∀ j:Nat,j < i->ks[j]?≠some k)\/∃ j,hit=some j/\j < i/\ks[j]?=some k)) _ ?_ ?_ _ _
   ⟨rfl,0,none,rfl,by rw [placesWithHash,List.range_eq_range',Nat.sub_zero],KA _,.inl ⟨rfl,fun _ h=>absurd h (Nat.not_lt_zero _)⟩⟩)
  ·rintro x rest b s' ⟨rfl,i,hit,rfl,hr,hi,hH⟩;obtain ⟨hix,hxn,hpx,hskip,hrest⟩:=filter_range'_cons _ _ _ _ _ hr.symm;have hlt:x < es.size:=by omega
   have hex:es[x]?=some es[x]:=Kw hlt;obtain ⟨k',bs,hkx,hk',hh,hr'⟩:=N.at' hex;have hrest':rest=(List.range' (x+1) (es.size - (x+1))).filter (fun i=>(es[i]?.map (·.hash))==some (bJ w k)):=by rw [hrest];congr 2;omega
   rw [hex] at hpx ⊢;have hhx:=(show (es[x].hash==bJ w k)=true by simpa using hpx);dsimp only;rw [JB hhx];refine Jp (K9 ho hd (Jp (zf hu hk hr' hky hk' _ _ _ _ (Jp (K9 ho hd ?_)))));rw [Jz (by simp)];cases q:PyData.eqv k' k with
   | true =>
    have z:=(same hk').mp q;rw [z] at hkx;first | rw [JB rfl] | skip
    have h0:hit=none:=by
     rcases hH with ⟨h0,_⟩ | ⟨j,_,hj,hjk⟩
     ·exact h0
     ·exact absurd (N.one hjk hkx) (by omega)
    subst h0;simp only [Option.isSome_none,K5,Lh];first | refine Jp (Jw ?_) | skip
    refine Jp (KW ?_);split
    ·exact Jw (Jw (hsome x hkx))
    ·exact Jw ⟨rfl,x+1,some x,rfl,hrest',hlt,.inr ⟨x,rfl,Lr x,hkx⟩⟩
   | false =>
    rw [Jz (by simp)];have z:k'≠k:=fun e=>by rw [(same hk').mpr e] at q;cases q
    have st:(hit=none/\∀ j:Nat,j < x+1->ks[j]?≠some k)\/∃ j,hit=some j/\j < x+1/\ks[j]?=some k:=by
     rcases hH with ⟨h0,hno⟩ | ⟨j,h0,hj,hjk⟩
     ·exact .inl ⟨h0,step hkx z (skip hno hskip)⟩
     ·exact .inr ⟨j,h0,by omega,hjk⟩
    refine Jp (KW ?_);first | rw [Jz (by simp)] | skip
    first
     | exact Jw ⟨rfl,x+1,hit,rfl,hrest',hlt,st⟩
     | exact Jp (Jw (Jw ⟨rfl,x+1,hit,rfl,hrest',hlt,st⟩))
  ·rintro b s' ⟨rfl,i,hit,rfl,hr,hi,hH⟩;rcases hH with ⟨rfl,hno⟩ | ⟨j,rfl,_,hj⟩
   ·exact Jw (hnone (done i hi hno hr))
   ·exact Jw (hsome j hj)
end
open PySem PySem.Spec PyProof.Rows
noncomputable def kD:Key->PyData | .inl i=>.int i | .inr x=>.str x
noncomputable def cvK (kv:Key×V):PyData×V×V:=(kD kv.1,kV kv.1,kv.2)
theorem CJ {a b:Key} (h:kD a=kD b):a=b:=by
 cases a <;> cases b <;> simp [kD] at h <;> simp [h]
theorem xZ (w:World) (k:Key):bJ w (kD k)=HU w k:=by cases k <;> rfl
theorem nM {P:Program} {w:World} {H:Hp} (h:Heap) (hb:sysModules < h.objs.size):aQ P w H (h.push { cls:=.type "dict", data:=.dict #[] }) h.objs.size (.dD 0 []) :=
 ⟨KA _,beq_eq_false_iff_ne.mpr (Ne.symm (Kk hb)),List.nodup_nil,_,#[],Kc _ rfl,⟨rfl,rfl,rfl⟩,rfl,.nil⟩
theorem lz {P:Program} {w:World}:∀ {kvs:List (Key×V)} {vs:List (Key×Value)} {es:List DictEntry},KV kvs vs->Pairs (aY P w) es vs->(∀ e∈es,∃ k,(aY P w).is k e.key=true/\e.hash=(aY P w).hash k)->Paired (zm w) (kvs.map cvK) es
 | [],_,_,r,q,_=>by cases r;cases q;exact .nil
 | p :: kvs,_,es,r,q,h=>by
  cases r with
  | cons r t =>
   cases q with
   | @cons e kv es' kvs' h1 h2 h3 =>
    obtain ⟨k,hk,hh⟩:=h e Jy;have e1:k=p.1:=by rw [r.1];exact (aY P w).inj _ _ _ hk h1
    subst e1;refine .cons ⟨?_,?_,?_⟩ (lz t h3 fun e he=>h e (JJ _ he))
    ·rw [hh];exact (xZ w _).symm
    ·show RelV (kV p.1) e.key;rcases az (show mE p.1 e.key=true from hk) with ⟨i,t,e1,e2⟩ | ⟨x,t,e1,e2⟩
     ·rw [e1,e2];exact ⟨t,rfl⟩
     ·rw [e1,e2];exact ⟨t,rfl⟩
    ·show RelV p.2 e.val;rw [h2];exact r.2
theorem Fw {P:Program} {w:World} {H:Hp} {h:Heap} {a:Addr} {kvs:List (Key×V)} {vs:List (Key×Value)} (z:kvs.length<=sizeLine) (hd:(a==sysModules)=false) (rel:KV kvs vs) (dd:h.DictOf (aY P w) a vs) :
  ∃ ep,aQ P w H h a (.dD ep (kvs.map cvK)):=by
 obtain ⟨o,es,ep,h1,h2,h3,h4,h5,h6⟩:=dd;refine ⟨ep,by rw [Jt];exact z,hd,?_,o,es,h1,h2,h3,lz rel h5 fun e he=>h4 e (Array.mem_toList_iff.mp he)⟩;have e1:vs.map (·.1)=kvs.map (·.1):=by
  clear h5 h6 z;unfold KV at rel;induction rel with
  | nil=>rfl
  | cons r t ih=>rw [List.map_cons,List.map_cons,ih,r.1]
 rw [e1] at h6;rw [Ls];have:(kvs.map ((fun x:PyData×V×V=>x.1)∘cvK))=(kvs.map (·.1)).map kD:=by rw [Ls];rfl
 rw [this];exact List.Pairwise.map kD (fun _ _ n z=>n (CJ z)) h6
def vU:TE:=fun _ H Q=>∀ p,H p=none->Q (.ref p) (upd H p (.dD 0 []))
def qt (trs:List (TE×TE)):TE:=fun σ H Q=>∀ p,H p=none->nX trs σ (upd H p (.dD 0 [])) fun ps H2=>H2 p=some (.dD 0 [])/\∃ kvs:List (Key×V),ps=kvs.map (fun kv=>(kV kv.1,kv.2))/\kvs.length<=15/\∀ ep,Q (.ref p) (upd H2 p (.dD ep ((cY [] kvs).map cvK)))
section
variable {X:Cx} {pos:Pos}
theorem vg:PE X (.Dict [] [] pos) vU:=fun pins s σ H Q I h =>
 wpAny_Dict_empty ⟨.ref s.heap.objs.size,_,I.laid (o:=.dD 0 []) (t':=s.toks) (fun _ _ q=>JN _ q) (JH _) (nM s.heap I.big),rfl,h _ (I.hok.fresh (JH _))⟩
theorem uV {keys:List (Option Expr)} {values:List Expr} {trs:List (TE×TE)} (h:PPs X pos keys values trs) (hall:keys.all (·.isSome)=true) (hl:keys.length=values.length) (h0:keys≠[])
  (h15:keys.length<=15):PE X (.Dict keys values pos) (qt trs):=by
 intro pins s σ H Q I q;have hn:=I.hok.fresh (JH s.heap.objs.size);have I1:=I.laid (o:=.dD 0 []) (h':=s.heap.push { cls:=.type "dict", data:=.dict #[] }) (t':=s.toks) (fun _ _ q=>JN _ q) (JH _) (nM s.heap I.big);refine wpAny_Dict_walk (knd:=aY X.prog X.w) hall hl h0 h15 (thn (h pins _ σ _ _ I1 (q _ hn)) fun ws s2 ⟨ps,H2,I2,rel,e,kvs,ep,lk,q2⟩=>?_);subst ep;obtain ⟨rs,c,rk⟩:=jj (P:=X.prog) (w:=X.w) rel;obtain ⟨z,hd,nd,o,es,g1,g2,g3,g4⟩:=(show aQ X.prog X.w H2 s2.heap s.heap.objs.size (.dD 0 []) from I2.hok _ _ e);have ees:es=#[]:=by
  cases es with
  | mk l=>cases g4;rfl
 subst ees;have dd:s2.heap.DictOf (aY X.prog X.w) s.heap.objs.size []:=⟨o,#[],0,g1,g2,g3,fun e he=>by simp at he,.nil,List.nodup_nil⟩;refine ⟨rs,c,dd,fun h' dd' hs=>?_⟩;have hz:(cY [] kvs).length<=sizeLine:=by
  have h1:=eQ kvs [];rw [KN] at h1;rw [Ku];omega
 have he:∃ q,h'.get? s.heap.objs.size=some q:=let ⟨q,_,_,hq,_⟩:=dd';⟨q,hq⟩
 obtain ⟨ep,new⟩:=Fw (H:=upd H2 s.heap.objs.size (.dD 0 [])) hz hd (rk.merge .nil) dd';exact ⟨.ref s.heap.objs.size,_,jZ I2 (by rw [e];exact True.intro) hs he (ob:=.dD ep ((cY [] kvs).map cvK)) new,rfl,q2 ep⟩
end
noncomputable def pG (xs:List (PyData×V×V)) (k:PyData):Option V:=(xs.find? fun x=>PyData.eqv x.1 k).map (·.2.2)
noncomputable def mZ (xs:List (PyData×V×V)) (k:PyData) (j v:V):List (PyData×V×V) :=
 if (xs.any fun x=>PyData.eqv x.1 k)=true then xs.map (fun x=>if PyData.eqv x.1 k=true then (x.1,x.2.1,v) else x) else xs++[(k,j,v)]
def fO (h:Heap) (xs:List (PyData×V×V)):Prop:=∀ x∈xs,kyB x.1=true/\∀ u,RelV x.2.1 u->∃ bs,Reads h u x.1 bs
section
variable {X:Cx} {pins:List (Addr×Obj)} {σ:St} {H:Hp} {s:Shared} {a:Addr} {A:Around} {E:Value->Shared->Prop} {ep:Nat} {xs:List (PyData×V×V)} {k:PyData} {u:Value} {as:List Addr}
theorem cO {α β:Type} {R:α->β->Prop}:∀ {l:List α} {m:List β},Paired R l m->∀ (j:Nat) (x:α),l[j]?=some x->∃ y,m[j]?=some y/\R x y
 | _,_,.nil,j,x,e=>by simp at e
 | _,_,.cons r t,0,x,e=>by simp at e;subst e;exact ⟨_,rfl,r⟩
 | _,_,.cons r t,j+1,x,e=>by simpa using cO t j x (by simpa using e)
theorem jN {P:Program} {w:World} {h:Heap} {es:Array DictEntry} (kr:fO h xs) (nd:(xs.map (·.1)).Nodup) (r:Paired (zm w) xs es.toList):x9 w h es (xs.map (·.1)) where
 len:=by rw [Jt,Lx r];simp
 nd:=nd
 at_:=fun j k e=>by
  rw [JU] at e;obtain ⟨x,hx,rfl⟩:=J7.mp e;obtain ⟨en,h1,h2,h3,h4⟩:=cO r j x hx;obtain ⟨k1,k2⟩:=kr x (J5 hx);obtain ⟨bs,r1⟩:=k2 _ h3;exact ⟨k1,en,bs,by simpa using h1,h2,r1⟩
theorem sv {j:Nat} (kr:fO s.heap xs) (nd:(xs.map (·.1)).Nodup) (ky:kyB k=true) (hj:(xs.map (·.1))[j]?=some k):∃ x,xs[j]?=some x/\x.1=k/\xs.find? (fun x=>PyData.eqv x.1 k)=some x:=by
 rw [JU] at hj;obtain ⟨x,hx,rfl⟩:=J7.mp hj;refine ⟨x,hx,rfl,?_⟩;rw [List.find?_eq_some_iff_getElem];obtain ⟨hl,e⟩:=Js.mp hx;refine ⟨(ee _ _ (aq.mp ky).1 (aq.mp ky).1).mpr rfl,j,hl,e,fun i hi=>?_⟩;have hil:i < xs.length:=by omega
 cases q:PyData.eqv xs[i].1 x.1 with
 | false=>rfl
 | true =>
  have z:=(ee _ _ (aq.mp (kr _ (L6 hil)).1).1 (aq.mp ky).1).mp q;have e1:(xs.map (·.1))[i]?=some x.1:=by rw [JU,Jq hil,Mc,z]
  have e2:(xs.map (·.1))[j]?=some x.1:=by rw [JU,hx];rfl
  have:=(List.getElem?_inj (by rw [Jt];exact hil) nd).mp (e1.trans e2.symm);omega
theorem qR (kr:fO s.heap xs) (ky:kyB k=true) (h:∀ j:Nat,(xs.map (·.1))[j]?≠some k):xs.find? (fun x=>PyData.eqv x.1 k)=none:=by
 rw [List.find?_eq_none];intro x hx q;have z:=(ee _ _ (aq.mp (kr x hx).1).1 (aq.mp ky).1).mp q;obtain ⟨j,hj⟩:=K7.mp hx;exact h j (by rw [JU,hj,Mc,z])
theorem AJ {Q:Option Value->Shared->Prop} (hu:A.units+6 < cLine) (I:Inv X pins σ H s) (e:H a=some (.dD ep xs)) (kr:fO s.heap xs) (hk:Reads s.heap u k as) (ky:kyB k=true)
  (q:∀ t ov,Gk (pG xs k) ov->Q ov { s with toks:=t }):wpAny (model X.prog X.w) A (dictGet a u) Q E s:=by
 obtain ⟨z,hd,nd,o,es,g1,g2,g3,g4⟩:=(show aQ X.prog X.w H s.heap a (.dD ep xs) from I.hok _ _ e);unfold dictGet;refine KJ (Jp (ui 6 hk (aq.mp ky).1 (aq.mp ky).2.2 hu fun t=>?_));refine Jp (ub (s:={ s with toks:=t }) hu hk ky g1 g3 (jN (P:=X.prog) kr nd g4) (fun hno=>?_) fun j hj=>?_)
 ·refine Jw (q _ _ ?_);unfold pG;rw [qR (s:=s) kr ky hno];exact True.intro
 ·obtain ⟨x,hx,e1,e2⟩:=sv (s:=s) kr nd ky hj;obtain ⟨en,h1,h2,h3,h4⟩:=cO g4 j x hx;refine Jp (La (s:={ s with toks:=t }) g1 g3 (Jw (q _ _ ?_)));unfold pG;rw [e2,show es[j]?=some en by simpa using h1];exact h4
theorem fi (I:Inv X pins σ H s) (e:H a=some (.dD ep xs)):s.TypeIs (.ref a) "dict" /\ (a==sysModules)=false:=by
 obtain ⟨z,hd,nd,o,es,g1,g2,g3,g4⟩:=(show aQ X.prog X.w H s.heap a (.dD ep xs) from I.hok _ _ e);exact ⟨⟨o,g1,g2.1⟩,hd⟩
theorem z9 {v:V} {Q:Value->Shared->Prop} (hu:A.units+7 < cLine) (I:Inv X pins σ H s) (e:H a=some (.dD ep xs)) (kr:fO s.heap xs) (hk:Reads s.heap u k as) (ky:kyB k=true) (hv:pG xs k=some v)
  (q:∀ t w',RelV v w'->Q w' { s with toks:=t }):wpAny (model X.prog X.w) A (getItem (.ref a) u) Q E s:=by
 obtain ⟨T,_⟩:=fi I e;unfold getItem;refine KJ (Jp (wpAny_sequenceKey T (by decide) (Jp (Ld (name:=Str.ofString "__getitem__") T slot_dict_getitem (K1 slot_dict_getitem T entry_dict_getitem ?_ (args_dict_getitem _ _))))));refine Jp (m:=dictGet a u) (AJ (by have:A.in1.units=A.units+1:=rfl;omega) I e kr hk ky fun t ov r=>?_);rw [hv] at r;cases ov with
 | none=>cases r
 | some w'=>exact Jw ⟨w',rfl,Jw (q t w' r)⟩
theorem Ap {Q:Bool->Shared->Prop} (hu:A.units+7 < cLine) (I:Inv X pins σ H s) (e:H a=some (.dD ep xs)) (kr:fO s.heap xs) (hk:Reads s.heap u k as) (ky:kyB k=true)
  (q:∀ t,Q (pG xs k).isSome { s with toks:=t }):wpAny (model X.prog X.w) A (contains (.ref a) u) Q E s:=by
 obtain ⟨T,hd⟩:=fi I e;unfold contains;refine KJ (Jp (Mb T slot_dict_contains.lookup ?_));show wpAny _ _ (if (some (Value.builtin "dict.__contains__")==some Value.none)=true then _ else _) _ E s;rw [Jz (by rw [beq_builtin_none];exact JL)];refine Jp (wpAny_callSpecialUnlessNone?_slot (name:=Str.ofString "__contains__") T slot_dict_contains (K1 slot_dict_contains T entry_dict_contains ?_ (args_dict_contains _ _)));refine Jp (m:=dictGet a u) (AJ (by have:A.in1.units=A.units+1:=rfl;omega) I e kr hk ky fun t ov r=>?_);cases hv:pG xs k with
 | some v =>
  rw [hv] at r;cases ov with
  | none=>cases r
  | some w' =>
   show wpAny _ _ (ret (.bool true)) _ _ _;have:=q t;rw [hv] at this;exact Jw ⟨_,rfl,Kt this⟩
 | none =>
  rw [hv] at r;cases ov with
  | some w'=>cases r
  | none =>
   show wpAny _ _ (Builtin.Dict.pendingKey? a u>>=_) _ _ _;have:=q t;rw [hv] at this;exact Jp (wpAny_pendingKey_other hd (Jw ⟨_,rfl,Kt this⟩))
theorem nO {j v:V}:(mZ xs k j v).length<=xs.length+1:=by
 unfold mZ;split
 ·rw [Jt];omega
 ·rw [Jr];exact JH _
theorem nG {j v:V} (h:xs.find? (fun x=>PyData.eqv x.1 k)=none):mZ xs k j v=xs++[(k,j,v)]:=by
 unfold mZ;rw [Jz];rw [LJ];rintro ⟨x,hx,q⟩;exact absurd q (by simpa using List.find?_eq_none.mp h x hx)
theorem ou {j v:V} {x:PyData×V×V} (h:xs.find? (fun x=>PyData.eqv x.1 k)=some x):mZ xs k j v=xs.map (fun x=>if PyData.eqv x.1 k=true then (x.1,x.2.1,v) else x):=by
 unfold mZ;rw [JB];rw [LJ];exact ⟨x,List.mem_of_find?_eq_some h,by simpa using List.find?_some h⟩
theorem uh {w:World} {h:Heap} {v:V} {r:Value} (ky:kyB k=true) (rv:RelV v r):∀ {xs:List (PyData×V×V)} {es:List DictEntry} {i:Nat},fO h xs->(xs.map (·.1)).Nodup->(xs.map (·.1))[i]?=some k->Paired (zm w) xs es ->
  Paired (zm w) (xs.map (fun x=>if PyData.eqv x.1 k=true then (x.1,x.2.1,v) else x)) (es.modify i fun e=>{ e with val:=r })
 | [],es,i,_,_,hi,_=>by simp at hi
 | x :: xs,es,i,kr,nd,hi,p=>by
  cases p with
  | @cons _ e _ es' h1 h2 =>
   have ky':=(kr x Jy).1;rw [List.map_cons,KC] at nd;have off:∀ {ys:List (PyData×V×V)} {fs:List DictEntry},k ∉ ys.map (·.1)->fO h ys->Paired (zm w) ys fs->Paired (zm w) (ys.map (fun x=>if PyData.eqv x.1 k=true then (x.1,x.2.1,v) else x)) fs:=by
    intro ys fs hn kr' q;have:(ys.map (fun x=>if PyData.eqv x.1 k=true then (x.1,x.2.1,v) else x))=ys:=by
     refine (List.map_congr_left fun y hy=>?_).trans (List.map_id _);rw [Jz]
     ·rfl
     ·intro z;exact hn (Kh.mpr ⟨y,hy,(ee _ _ (aq.mp (kr' y hy).1).1 (aq.mp ky).1).mp z⟩)
    rw [this];exact q
   cases i with
   | zero =>
    simp at hi;subst hi;rw [List.map_cons,JB ((ee _ _ (aq.mp ky).1 (aq.mp ky).1).mpr rfl)];exact .cons ⟨h1.1,h1.2.1,rv⟩ (off nd.1 (fun y hy=>kr y (JJ _ hy)) h2)
   | succ i =>
    have hi':(xs.map (·.1))[i]?=some k:=by simpa using hi
    have ne:x.1≠k:=fun z=>nd.1 (by rw [z];exact J5 hi');rw [List.map_cons,Jz fun z=>ne ((ee _ _ (aq.mp ky').1 (aq.mp ky).1).mp z)];exact .cons h1 (uh ky rv (fun y hy=>kr y (JJ _ hy)) nd.2 hi' h2)
theorem Fq {j v:V} {r:Value} {Q:Unit->Shared->Prop} (hu:A.units+7 < cLine) (I:Inv X pins σ H s) (e:H a=some (.dD ep xs)) (kr:fO s.heap xs) (hk:Reads s.heap u k as) (ky:kyB k=true) (rj:RelV j u) (rv:RelV v r) (hl:xs.length < sizeLine)
  (q:∀ ep' s',Inv X pins σ (upd H a (.dD ep' (mZ xs k j v))) s'->Q () s'):wpAny (model X.prog X.w) A (setItem (.ref a) u r) Q E s:=by
 obtain ⟨T,hd⟩:=fi I e;obtain ⟨z,_,nd,o,es,g1,g2,g3,g4⟩:=(show aQ X.prog X.w H s.heap a (.dD ep xs) from I.hok _ _ e);have hsz:es.size=xs.length:=by rw [Lx g4];simp
 unfold setItem;refine KJ (Jp (wpAny_sequenceKey T (by decide) (Jp (Ld (name:=Str.ofString "__setitem__") T slot_dict_setitem (K1 slot_dict_setitem T entry_dict_setitem ?_ (args_dict_setitem _ _ _))))));refine Jp (m:=Builtin.Dict.notOrdered "__setitem__" ⟨[.ref a,u,r],[]⟩) (wpAny_notOrdered_dict T ?_);refine Jp (m:=dictSet a u r) ?_;unfold dictSet dictSetHashed;refine KJ (Jp (ui 6 hk (aq.mp ky).1 (aq.mp ky).2.2 (by have:A.in1.units=A.units+1:=rfl;omega) fun t=>KJ ?_));have hl':(mZ xs k j v).length<=sizeLine:=by have:=nO (xs:=xs) (k:=k) (j:=j) (v:=v);omega
 refine Jp (ub (s:={ s with toks:=t }) (by have:A.in1.units=A.units+1:=rfl;omega) hk ky g1 g3 (jN (P:=X.prog) kr nd g4) (fun hno=>?_) fun i hi=>?_)
 ·have fn:=qR (s:=s) kr ky hno;refine Jp (KW (wpAny_updateDictKeys (s:={ s with toks:=t }) (hz:=by omega) g1 g3 (Jw ⟨.none,rfl,Jw (q (ep+1) _ (jZ (t':=t) (I.tok t) (by rw [e];exact True.intro) (LQ ..) ⟨_,K8 _ g1 (Lw (Lq g3 _))⟩ ?_))⟩)));refine ⟨hl',hd,?_,_,_,K8 _ g1 (Lw (Lq g3 _)),g2.mapDictKeys _,Lq g3 _,?_⟩
  ·rw [nG fn,Ko,Kf];refine ⟨nd,by simp,fun y hy z hz=>?_⟩;simp only [List.map_cons,List.map_nil,JD] at hz;subst hz;rintro rfl;obtain ⟨i,hi⟩:=K7.mp hy;exact hno i hi
  ·rw [nG fn,Array.toList_push];exact Paired.snoc g4 ⟨rfl,rj,rv⟩
 ·obtain ⟨x,hx,e1,e2⟩:=sv (s:=s) kr nd ky hi;refine Jp (KW (Jp (wpAny_updateDict (s:={ s with toks:=t }) g1 g3 (wpAny_point (Jw ⟨.none,rfl,Jw (q ep _ (jZ (t':=t) (I.tok t) (by rw [e];exact True.intro) (LQ ..) ⟨_,K8 _ g1 (Lw (Obj.data_mapDict g3 _))⟩ ?_))⟩)))));refine ⟨hl',hd,?_,_,_,K8 _ g1 (Lw (Obj.data_mapDict g3 _)),g2.mapDict _,Obj.data_mapDict g3 _,?_⟩
  ·rw [ou e2,Ls];have:(xs.map ((fun x:PyData×V×V=>x.1)∘fun y=>if PyData.eqv y.1 k=true then (y.1,y.2.1,v) else y))=xs.map (·.1):=List.map_congr_left fun y _=>by
    show (if PyData.eqv y.1 k=true then (y.1,y.2.1,v) else y).1=y.1;split <;> rfl
   rw [this];exact nd
  ·rw [ou e2,Array.toList_modify];exact uh ky rv kr nd hi g4
end
open PySem PySem.Spec PyProof.Rows
section
variable {P:Program} {w:World} {A:Around} {E:Value->Shared->Prop} {s:Shared} {it d:Addr} {o od:Obj} {es:Array DictEntry} {i ep:Nat}
theorem Ak {Q:Value->Shared->Prop} (hd:(d==sysModules)=false) (g1:s.heap.get? d=some od) (g2:od.ExactDict) (g3:od.data=.dict es ep)
  (q:Q (.ref s.heap.objs.size) { s with heap:=s.heap.push { cls:=.type "dict_keyiterator", data:=.fields #[.ref d,.int 0 0,.int es.size 0,.int ep 0] } }):wpAny (model P w) A (pyIter (.ref d)) Q E s:=by
 have T:s.TypeIs (.ref d) "dict" := ⟨od,g1,g2.1⟩;refine wpAny_pyIter_slot T F.slot_dict_iter (K1 F.slot_dict_iter T F.entry_dict_iter ?_ (F.args_dict_iter_1 _));unfold Builtin.«dict.__iter__» Builtin.Dict.dictSlotNone
 refine Jp (Jp (wpAny_notOrdered_dict T ?_));show wpAny _ _ (pure (Value.ref d):Sem Value) _ _ s;refine Jw ?_;show wpAny _ _ (Builtin.Dict.showsAll d>>=_) _ _ s;unfold Builtin.Dict.showsAll;rw [Jz (by rw [hd];exact JL)];refine Jp (Jw (Jp (La g1 g3 (Jp (K9 g1 g3 ?_)))));exact Jp (KU (Jw ⟨_,rfl, "dict_keyiterator", _,⟨_,Kc _ rfl,rfl⟩,LN.lookup,q⟩))
theorem CI {Q:Option Value->Shared->Prop} (hit:s.heap.IsKeyIter it d i es.size ep) (g1:s.heap.get? d=some od) (g3:od.data=.dict es ep) {e:DictEntry} (he:es[i]?=some e)
  (q:∀ h',h'.IsKeyIter it d (i+1) es.size ep->Heap.SameBut it s.heap h'->Q (some e.key) { s with heap:=h' }):wpAny (model P w) A (pyNext (.ref it)) Q E s:=by
 obtain ⟨ob,ho,hc,hd⟩:=id hit;have T:=hit.typeIs;unfold pyNext;refine Jp (wpAny_attempt (Ld (name:=Str.ofString "__next__") T LN (K1 LN T F.entry_dict_keyiterator_next ?_ (F.args_dict_keyiterator_next_1 _))));refine Jp (Jw (Jp (Jp ?_)));first | refine Jp (LK T (Jw (Jp (wpAny_fieldsOf ho hd ?_)))) | refine Jp (L3 T (Jw (Jp (wpAny_fieldsOf ho hd ?_))))
 simp only [show Builtin.Dict_items.ownsTuple "dict_keyiterator" = false by decide,K5,Lh];show wpAny _ _ (if (Value.ref d==Value.none)=true then _ else _) _ _ s;rw [Jz (show ¬((Value.ref d==Value.none)=true) from JL)];refine Jp (Jw (Jp (La g1 g3 ?_)));rw [Jz (by simp)];refine Jp (Jw (Jp (K9 g1 g3 ?_)));rw [Jz (by simp)];refine Jw ?_;simp only [show ¬((i:Int) < 0) from by omega,Lh,Int.toNat_natCast,he];refine Jp ?_;first | refine Jp (LK T (Jw (Jp (wpAny_isOneOf_keyiter T ?_)))) | refine Jp (L3 T (Jw (Jp (wpAny_isOneOf_keyiter T ?_))))
 show wpAny _ _ (setField (.ref it) 1 (rawInt ((i:Int)+1))>>=_) _ _ s;have hit':(s.heap.update it (Obj.mapFields (·.setIfInBounds 1 (rawInt ((i:Int)+1))))).IsKeyIter it d (i+1) es.size ep :=
  ⟨_,K8 _ ho (Obj.isFreed_of_fields (Obj.data_mapFields hd _)),(Obj.cls_mapFields ..).trans hc,by rw [Obj.data_mapFields hd];simp [rawInt]⟩
 refine Jp (wpAny_setField ho hd (by simp) (Jp (KJ ?_)));refine Jp (wpAny_isOneOf_keyiter (s:={ s with heap:=s.heap.update it (Obj.mapFields (·.setIfInBounds 1 (rawInt ((i:Int)+1)))) }) hit'.typeIs ?_);show wpAny _ _ (pure e.key:Sem Value) _ _ _;exact Jw (Jw ⟨_,rfl,Jw (q _ hit' (LQ ..))⟩)
theorem Fx {Q:Option Value->Shared->Prop} (hh:A.handled=none) (hit:s.heap.IsKeyIter it d i es.size ep) (g1:s.heap.get? d=some od) (g3:od.data=.dict es ep) (he:es.size<=i)
  (q:∀ h',Heap.ExtBut it s.heap h'->Q none { s with heap:=h' }):wpAny (model P w) A (pyNext (.ref it)) Q E s:=by
 obtain ⟨ob,ho,hc,hd⟩:=id hit;have T:=hit.typeIs;unfold pyNext;refine Jp (wpAny_attempt (Ld (name:=Str.ofString "__next__") T LN (K1 LN T F.entry_dict_keyiterator_next ?_ (F.args_dict_keyiterator_next_1 _))));refine Jp (Jw (Jp (Jp ?_)));first | refine Jp (LK T (Jw (Jp (wpAny_fieldsOf ho hd ?_)))) | refine Jp (L3 T (Jw (Jp (wpAny_fieldsOf ho hd ?_))))
 simp only [show Builtin.Dict_items.ownsTuple "dict_keyiterator" = false by decide,K5,Lh];show wpAny _ _ (if (Value.ref d==Value.none)=true then _ else _) _ _ s;rw [Jz (show ¬((Value.ref d==Value.none)=true) from JL)];refine Jp (Jw (Jp (La g1 g3 ?_)));rw [Jz (by simp)];refine Jp (Jw (Jp (K9 g1 g3 ?_)));rw [Jz (by simp)];refine Jw ?_;simp only [show ¬((i:Int) < 0) from by omega,Lh,Int.toNat_natCast,Array.getElem?_eq_none he];refine Jp ?_;first | refine Jp (LK T (Jw ?_)) | refine Jp (L3 T (Jw ?_))
 show wpAny _ _ (setField (.ref it) 0 .none>>=_) _ _ s;refine Jp (wpAny_setField ho hd (by simp) ?_);show wpAny _ _ (newExc (.type "StopIteration") []>>=_) _ _ _;refine Jp ?_;simp only [newExc,newTuple];refine Jp (KU (Jp (m:=firstArgMember _ _) (wpAny_of_eq (a:=Value.none) (by first | rfl | (simp only [firstArgMember];rfl)) (KU ?_ (by size_fits)))) (by size_fits));simp only [raiseNew];refine Jp (wpAny_handled ?_);rw [show A.in1.handled=none from hh];refine Jp (Jw (wpAny_throw ?_));refine Jp (wpAny_isInstance (b:=true) (T := "StopIteration") ⟨_,Kc _ rfl,rfl⟩ isSubtype_stop ?_);exact Jw (q _ (((LQ ..).extBut.push _).push _))
end
def Itd (a:Addr) (ep:Nat) (xs:List (PyData×V×V)):It :=
 ⟨fun i H=>H a=some (.dD ep xs)/\i < xs.length,fun i H x H'=>H'=H/\(xs[i]?).map (·.2.1)=some x,fun i H=>H a=some (.dD ep xs)/\xs.length<=i⟩
def Ia (tl:TE):TI:=fun σ H R=>tl σ H fun x H1=>∃ a ep xs,x=.ref a/\H1 a=some (.dD ep xs)/\R (Itd a ep xs) H1
open PySem PySem.Spec PyProof.Rows
def Itz (K:Fg) (a b:Addr) (xs ys:List V):It :=
 ⟨fun i H=>SqL K H a xs/\SqL K H b ys/\i < xs.length/\i < ys.length,fun i H x H'=>∃ p u v,H p=none/\x=.ref p/\xs[i]?=some u/\ys[i]?=some v/\H'=upd H p (.tup [u,v]),fun i H=>SqL K H a xs/\SqL K H b ys/\(xs.length<=i\/ys.length<=i)⟩
def Il (K:Fg) (t:TA):TI:=fun σ H R=>t σ H fun vs H1=>∃ a b xs ys,vs=[.ref a,.ref b]/\SqL K H1 a xs/\SqL K H1 b ys/\R (Itz K a b xs ys) H1
open PySem
def IE (K:Fg) (a:Addr) (xs:List V):Prop:=∃ (o:Obj) (its:Array Value) (n:Nat),K.lookup a=some o/\o.cls=.type "list" /\ o.dict=none/\o.data=.seq its n/\its.size<=sizeLine/\Vals xs its.toList
def LsF (K:Fg) (F:Addr->Prop) (H:Hp) (a:Addr) (xs:List V):Prop:=(¬F a/\Rd H a (.lst xs))\/IE K a xs
mutual
def Dm (K:Fg) (F:Addr->Prop) (H:Hp):PyData->V->Prop
 | .none,v=>v=.non
 | .bool b,v=>v=.bl b
 | .int i,v=>v=.int i
 | .str x,v=>v=.str x/\x.length<=sizeLine/\PyData.strOk x=true
 | .list ds,v=>∃ a xs,v=.ref a/\LsF K F H a xs/\xs.length<=sizeLine/\DmL K F H ds xs
 | .tuple ds,v=>∃ a xs,v=.ref a/\SqT K H a xs/\xs.length<=sizeLine/\DmL K F H ds xs
 | .dict kvs,v=>∃ a ep xs,v=.ref a/\¬F a/\H a=some (.dD ep xs)/\xs.length<=sizeLine/\DmP K F H kvs xs
def DmL (K:Fg) (F:Addr->Prop) (H:Hp):List PyData->List V->Prop
 | [],vs=>vs=[]
 | d :: ds,vs=>∃ v r,vs=v :: r/\Dm K F H d v/\DmL K F H ds r
def DmP (K:Fg) (F:Addr->Prop) (H:Hp):List (PyData×PyData)->List (PyData×V×V)->Prop
 | [],vs=>vs=[]
 | (k,d) :: ds,vs=>∃ j v r,vs=(k,j,v) :: r/\hk6 k=true/\Dm K F H k j/\Dm K F H d v/\DmP K F H ds r
end
noncomputable def Wr:HO->Bool | .lst _=>true | .dD _ _=>true | _=>false
def Pr (F:Addr->Prop) (H H':Hp):Prop:=∀ b o,H b=some o->(¬F b\/Wr o=false)->H' b=some o
section
variable {K:PySem.W.Frag} {F F':Addr->Prop} {H H':Hp}
theorem SqT.pr {a:Addr} {xs:List V} (p:Pr F H H') (h:SqT K H a xs):SqT K H' a xs:=by
 rcases h with (h | ⟨o,h⟩) | h
 ·exact .inl (.inl (p _ _ h (.inr rfl)))
 ·exact .inl (.inr ⟨o,p _ _ h (.inr rfl)⟩)
 ·exact .inr h
theorem LsF.pr {a:Addr} {xs:List V} (p:Pr F H H') (hf:∀ b,F' b->F b) (h:LsF K F H a xs):LsF K F' H' a xs:=by
 rcases h with ⟨n,h | ⟨o,h⟩⟩ | h
 ·exact .inl ⟨fun z=>n (hf _ z),.inl (p _ _ h (.inl n))⟩
 ·exact .inl ⟨fun z=>n (hf _ z),.inr ⟨o,p _ _ h (.inl n)⟩⟩
 ·exact .inr h
mutual
theorem Dm.pr (p:Pr F H H') (hf:∀ b,F' b->F b):∀ {d:PyData} {v:V},Dm K F H d v->Dm K F' H' d v
 | .none,v,h=>h
 | .bool b,v,h=>h
 | .int i,v,h=>h
 | .str x,v,h=>h
 | .list ds,v,h=>by
  obtain ⟨a,xs,e,l,z,r⟩:=h;exact ⟨a,xs,e,l.pr p hf,z,DmL.pr p hf r⟩
 | .tuple ds,v,h=>by
  obtain ⟨a,xs,e,l,z,r⟩:=h;exact ⟨a,xs,e,l.pr p,z,DmL.pr p hf r⟩
 | .dict kvs,v,h=>by
  obtain ⟨a,ep,xs,e,n,l,z,r⟩:=h;exact ⟨a,ep,xs,e,fun q=>n (hf _ q),p _ _ l (.inl n),z,DmP.pr p hf r⟩
theorem DmL.pr (p:Pr F H H') (hf:∀ b,F' b->F b):∀ {ds:List PyData} {vs:List V},DmL K F H ds vs->DmL K F' H' ds vs
 | [],vs,h=>h
 | d :: ds,vs,h=>by
  obtain ⟨v,r,e,h1,h2⟩:=h;exact ⟨v,r,e,Dm.pr p hf h1,DmL.pr p hf h2⟩
theorem DmP.pr (p:Pr F H H') (hf:∀ b,F' b->F b):∀ {ds:List (PyData×PyData)} {vs:List (PyData×V×V)},DmP K F H ds vs->DmP K F' H' ds vs
 | [],vs,h=>h
 | (k,d) :: ds,vs,h=>by
  obtain ⟨j,v,r,e,e2,h0,h1,h2⟩:=h;exact ⟨j,v,r,e,e2,Dm.pr p hf h0,Dm.pr p hf h1,DmP.pr p hf h2⟩
end
theorem LsF.fresh {a c:Addr} {xs:List V} (hc:H c=none) (h:LsF K F H a xs):LsF K (fun b=>F b\/b=c) H a xs:=by
 rcases h with ⟨n,h⟩ | h
 ·refine .inl ⟨fun z=>z.elim n fun e=>?_,h⟩;subst e;rcases h with h | ⟨o,h⟩ <;> (rw [hc] at h;cases h)
 ·exact .inr h
mutual
theorem Dm.fresh {c:Addr} (hc:H c=none):∀ {d:PyData} {v:V},Dm K F H d v->Dm K (fun b=>F b\/b=c) H d v
 | .none,v,h=>h
 | .bool b,v,h=>h
 | .int i,v,h=>h
 | .str x,v,h=>h
 | .list ds,v,h=>by
  obtain ⟨a,xs,e,l,z,r⟩:=h;exact ⟨a,xs,e,l.fresh hc,z,DmL.fresh hc r⟩
 | .tuple ds,v,h=>by
  obtain ⟨a,xs,e,l,z,r⟩:=h;exact ⟨a,xs,e,l,z,DmL.fresh hc r⟩
 | .dict kvs,v,h=>by
  obtain ⟨a,ep,xs,e,n,l,z,r⟩:=h;exact ⟨a,ep,xs,e,fun q=>q.elim n fun q=>(by subst q;rw [hc] at l;cases l),l,z,DmP.fresh hc r⟩
theorem DmL.fresh {c:Addr} (hc:H c=none):∀ {ds:List PyData} {vs:List V},DmL K F H ds vs->DmL K (fun b=>F b\/b=c) H ds vs
 | [],vs,h=>h
 | d :: ds,vs,h=>by
  obtain ⟨v,r,e,h1,h2⟩:=h;exact ⟨v,r,e,Dm.fresh hc h1,DmL.fresh hc h2⟩
theorem DmP.fresh {c:Addr} (hc:H c=none):∀ {ds:List (PyData×PyData)} {vs:List (PyData×V×V)},DmP K F H ds vs->DmP K (fun b=>F b\/b=c) H ds vs
 | [],vs,h=>h
 | (k,d) :: ds,vs,h=>by
  obtain ⟨j,v,r,e,e2,h0,h1,h2⟩:=h;exact ⟨j,v,r,e,e2,Dm.fresh hc h0,Dm.fresh hc h1,DmP.fresh hc h2⟩
end
theorem Pr.refl:Pr F H H:=fun _ _ h _=>h
theorem Pr.trans {H1 H2:Hp} (a:Pr F H H1) (b:Pr F' H1 H2) (hf:∀ b,F' b->F b):Pr F H H2:=fun c o h n=>b c o (a c o h n) (n.imp (fun z q=>z (hf _ q)) id)
theorem Pr.of_same (a:ar H H'):Pr F H H':=fun c o h _=>a c o h
theorem Dm.mono (hf:∀ b,F' b->F b) {d:PyData} {v:V} (h:Dm K F H d v):Dm K F' H d v:=h.pr Pr.refl hf
theorem DmL.mono (hf:∀ b,F' b->F b) {d:List PyData} {v:List V} (h:DmL K F H d v):DmL K F' H d v:=h.pr Pr.refl hf
theorem DmL.len:∀ {ds:List PyData} {vs:List V},DmL K F H ds vs->vs.length=ds.length
 | [],vs,h=>by rw [show vs=[] from h];rfl
 | d :: ds,vs,h=>by
  obtain ⟨v,r,e,h1,h2⟩:=h;rw [e,J2,J2,DmL.len h2]
theorem DmL.get:∀ {ds:List PyData} {vs:List V} {i:Nat} {d:PyData},DmL K F H ds vs->ds[i]?=some d->∃ v,vs[i]?=some v/\Dm K F H d v
 | [],vs,_,_,h,e=>by simp at e
 | d :: ds,vs,0,d',h,e=>by
  obtain ⟨v,r,e1,h1,h2⟩:=h;simp at e;subst e;subst e1;exact ⟨v,rfl,h1⟩
 | d :: ds,vs,i+1,d',h,e=>by
  obtain ⟨v,r,e1,h1,h2⟩:=h;subst e1;obtain ⟨w,q1,q2⟩:=DmL.get (i:=i) h2 (by simpa using e);exact ⟨w,by simpa using q1,q2⟩
theorem DmL.get' {ds:List PyData} {vs:List V} {i:Nat} {v:V} (h:DmL K F H ds vs) (e:vs[i]?=some v):∃ d,ds[i]?=some d/\Dm K F H d v:=by
 have hl:=h.len;have hi:i < vs.length:=(Js.mp e).1;have hd:ds[i]?=some (ds[i]'(by omega)):=Jq _;obtain ⟨w,e2,q⟩:=h.get hd;rw [e] at e2;cases e2;exact ⟨_,hd,q⟩
theorem DmL.app:∀ {ds es:List PyData} {vs ws:List V},DmL K F H ds vs->DmL K F H es ws->DmL K F H (ds++es) (vs++ws)
 | [],es,vs,ws,h,q=>by rw [show vs=[] from h];exact q
 | d :: ds,es,vs,ws,h,q=>by
  obtain ⟨v,r,e,h1,h2⟩:=h;subst e;exact ⟨v,r++ws,rfl,h1,DmL.app h2 q⟩
theorem DmL.snoc {ds:List PyData} {vs:List V} {d:PyData} {v:V} (h:DmL K F H ds vs) (q:Dm K F H d v):DmL K F H (ds++[d]) (vs++[v]):=h.app ⟨v,[],rfl,q,rfl⟩
def Top (K:PySem.W.Frag) (F:Addr->Prop) (H:Hp):PyData->Addr->Prop
 | .list ds,a=>∃ xs,H a=some (.lst xs)/\xs.length<=sizeLine/\DmL K F H ds xs
 | .dict kvs,a=>∃ ep xs,H a=some (.dD ep xs)/\xs.length<=sizeLine/\DmP K F H kvs xs
 | _,_=>False
def tT (K:PySem.W.Frag) (F:Addr->Prop) (H:Hp):PyData->Addr->Prop
 | .list ds,a=>∃ xs,SqL K H a xs/\xs.length<=sizeLine/\DmL K F H ds xs
 | .dict kvs,a=>∃ ep xs,H a=some (.dD ep xs)/\xs.length<=sizeLine/\DmP K F H kvs xs
 | _,_=>False
def Vw (K:PySem.W.Frag) (F:Addr->Prop) (H:Hp):PyData->V->Prop
 | .list ds,v=>∃ a,v=.ref a/\tT K F H (.list ds) a
 | .dict ds,v=>∃ a,v=.ref a/\tT K F H (.dict ds) a
 | d,v=>Dm K F H d v
theorem Top.r {d:PyData} {a:Addr} (h:Top K F H d a):tT K F H d a:=by
 cases d with
 | list ds=>obtain ⟨xs,e,z,r⟩:=h;exact ⟨xs,.inl (.inl e),z,r⟩
 | dict ds=>exact h
 | _=>exact h
theorem tT.vw {d:PyData} {a:Addr} (h:tT K F H d a):Vw K F H d (.ref a):=by
 cases d with
 | list ds=>exact ⟨a,rfl,h⟩
 | dict ds=>exact ⟨a,rfl,h⟩
 | _=>exact absurd h id
theorem Dm.vw {d:PyData} {v:V} (h:Dm K F H d v):Vw K F H d v:=by
 cases d with
 | list ds =>
  obtain ⟨a,xs,e,l,z,r⟩:=h;refine ⟨a,e,xs,?_,z,r⟩;rcases l with ⟨n,l⟩ | l
  ·exact .inl l
  ·exact .inr l
 | dict ds=>obtain ⟨a,ep,xs,e,n,l,z,r⟩:=h;exact ⟨a,e,ep,xs,l,z,r⟩
 | _=>exact h
theorem Top.dm {d:PyData} {a:Addr} (h:Top K F H d a) (n:¬F a):Dm K F H d (.ref a):=by
 cases d with
 | list ds=>obtain ⟨xs,e,z,r⟩:=h;exact ⟨a,xs,rfl,.inl ⟨n,.inl e⟩,z,r⟩
 | dict ds=>obtain ⟨ep,xs,e,z,r⟩:=h;exact ⟨a,ep,xs,rfl,n,e,z,r⟩
 | _=>exact absurd h id
theorem Top.wr {d:PyData} {a:Addr} (h:Top K F H d a):∃ o,H a=some o/\Wr o=true:=by
 cases d with
 | list ds=>obtain ⟨xs,e,_⟩:=h;exact ⟨_,e,rfl⟩
 | dict ds=>obtain ⟨ep,xs,e,_⟩:=h;exact ⟨_,e,rfl⟩
 | _=>exact absurd h id
theorem Top.pr {d:PyData} {a:Addr} (h:Top K F H d a) (p:Pr F H H') (hf:∀ b,F' b->F b) (ha:∀ o,H a=some o->H' a=some o):Top K F' H' d a:=by
 cases d with
 | list ds=>obtain ⟨xs,e,z,r⟩:=h;exact ⟨xs,ha _ e,z,r.pr p hf⟩
 | dict ds=>obtain ⟨ep,xs,e,z,r⟩:=h;exact ⟨ep,xs,ha _ e,z,r.pr p hf⟩
 | _=>exact absurd h id
theorem tT.pr {d:PyData} {a:Addr} (h:tT K F H d a) (p:Pr F H H') (hf:∀ b,F' b->F b) (ha:∀ o,H a=some o->H' a=some o):tT K F' H' d a:=by
 cases d with
 | list ds =>
  obtain ⟨xs,e,z,r⟩:=h;refine ⟨xs,?_,z,r.pr p hf⟩;rcases e with (e | ⟨o,e⟩) | e
  ·exact .inl (.inl (ha _ e))
  ·exact .inl (.inr ⟨o,ha _ e⟩)
  ·exact .inr e
 | dict ds=>obtain ⟨ep,xs,e,z,r⟩:=h;exact ⟨ep,xs,ha _ e,z,r.pr p hf⟩
 | _=>exact absurd h id
theorem Top.fresh {d:PyData} {a c:Addr} (hc:H c=none) (h:Top K F H d a):Top K (fun b=>F b\/b=c) H d a:=by
 cases d with
 | list ds=>obtain ⟨xs,e,z,r⟩:=h;exact ⟨xs,e,z,r.fresh hc⟩
 | dict ds=>obtain ⟨ep,xs,e,z,r⟩:=h;exact ⟨ep,xs,e,z,r.fresh hc⟩
 | _=>exact absurd h id
end
open PySem
def Ht (K:Fg) (tl:TE):TI:=fun σ H R=>uD K tl σ H R\/DM K tl σ H R
inductive Sl where | un | dat (d:PyData) | own (d:PyData) | ino (d:PyData) | ro (d:PyData)
abbrev En:=List Sl
inductive RV where | dat (d:PyData) | bor (i:Nat) | frs (d:PyData)
inductive PR where | dat (d:PyData) | frs (d:PyData)
inductive AV where | dat (d:PyData) | bor (i:Nat)
inductive PM where | dat | bor | ino
noncomputable def PR.rv:PR->RV | .dat d=>.dat d | .frs d=>.frs d
noncomputable def RV.av:RV->AV | .dat d=>.dat d | .frs d=>.dat d | .bor i=>.bor i
structure Fn where
 ms:List PM
 F:List PyData->Option (PR×List PyData)
noncomputable def cont (env:En) (i:Nat):Option PyData:=match env[i]? with | some (.own d)=>some d | some (.ino d)=>some d | some (.ro d)=>some d | _=>none
noncomputable def aC (env:En) (i:Nat):Option PyData:=match env[i]? with | some (.own d)=>some d | some (.ino d)=>some d | _=>none
noncomputable def fH (env:En) (i:Nat) (d:PyData):En:=match env[i]? with | some (.own _)=>env.set i (.own d) | some (.ino _)=>env.set i (.ino d) | _=>env
noncomputable def AV.view (env:En):AV->Option PyData | .dat d=>some d | .bor i=>cont env i
noncomputable def RV.view (env:En) (r:RV):Option PyData:=r.av.view env
def mu (env:En) (i:Nat):Prop:=∃ d,env[i]?=some (.own d)\/env[i]?=some (.ino d)
def IA (env:En) (σ:St) (b:Addr):Prop:=∃ i,mu env i/\σ[i]?=some (some (.ref b))
def FF (F0:Addr->Prop) (env:En) (σ:St) (b:Addr):Prop:=F0 b\/∃ (i:Nat) (d:PyData),env[i]?=some (.own d)/\σ[i]?=some (some (.ref b))
def d4 (K:Fg) (F I:Addr->Prop) (H:Hp):PyData->Addr->Prop
 | .list ds,a=>∃ xs,LsF K I H a xs/\xs.length<=sizeLine/\DmL K F H ds xs
 | .dict kvs,a=>∃ ep xs,¬I a/\H a=some (.dD ep xs)/\xs.length<=sizeLine/\DmP K F H kvs xs
 | _,_=>False
structure Rel (K:Fg) (F0:Addr->Prop) (H₀:Hp) (I:Addr->Prop) (env:En) (σ:St) (H:Hp):Prop where
 len:env.length=σ.length
 dat:∀ (i:Nat) (d:PyData),env[i]?=some (.dat d)->∃ v,σ[i]?=some (some v)/\Dm K (FF F0 env σ) H d v
 own:∀ (i:Nat) (d:PyData),env[i]?=some (.own d)->∃ a,σ[i]?=some (some (.ref a))/\¬F0 a/\(H₀ a=none\/I a)/\Top K (FF F0 env σ) H d a
 ino:∀ (i:Nat) (d:PyData),env[i]?=some (.ino d)->∃ a,σ[i]?=some (some (.ref a))/\F0 a/\I a/\Top K (FF F0 env σ) H d a
 ro:∀ (i:Nat) (d:PyData),env[i]?=some (.ro d)->∃ a,σ[i]?=some (some (.ref a))/\d4 K (FF F0 env σ) (IA env σ) H d a
 sep:∀ i j a,mu env i->mu env j->σ[i]?=some (some (.ref a))->σ[j]?=some (some (.ref a))->i=j
 dom:∀ b,F0 b->H b≠none
 cL:∀ b o,H₀ b=some o->¬I b->H b=some o
section
variable {K:Fg} {F F' I I' F0:Addr->Prop} {H H' H₀:Hp} {env env':En} {σ σ':St}
theorem d4.r {d:PyData} {a:Addr} (h:d4 K F I H d a):tT K F H d a:=by
 cases d with
 | list ds =>
  obtain ⟨xs,l,z,r⟩:=h;exact ⟨xs,l.elim (fun q=>.inl q.2) .inr,z,r⟩
 | dict ds=>obtain ⟨ep,xs,n,l,z,r⟩:=h;exact ⟨ep,xs,l,z,r⟩
 | _=>exact absurd h id
theorem d4.pr {d:PyData} {a:Addr} (h:d4 K F I H d a) (p:Pr F H H') (hf:∀ b,F' b->F b) (hi:∀ b,I' b->I b) (k:∀ b o,H b=some o->¬I b->H' b=some o):d4 K F' I' H' d a:=by
 cases d with
 | list ds =>
  obtain ⟨xs,l,z,r⟩:=h;refine ⟨xs,?_,z,r.pr p hf⟩;rcases l with ⟨n,l | ⟨o,l⟩⟩ | l
  ·exact .inl ⟨fun q=>n (hi _ q),.inl (k _ _ l n)⟩
  ·exact .inl ⟨fun q=>n (hi _ q),.inr ⟨o,k _ _ l n⟩⟩
  ·exact .inr l
 | dict ds=>obtain ⟨ep,xs,n,l,z,r⟩:=h;exact ⟨ep,xs,fun q=>n (hi _ q),k _ _ l n,z,r.pr p hf⟩
 | _=>exact absurd h id
theorem d4.fresh {d:PyData} {a c:Addr} (hc:H c=none) (h:d4 K F I H d a):d4 K (fun b=>F b\/b=c) I H d a:=by
 cases d with
 | list ds=>obtain ⟨xs,e,z,r⟩:=h;exact ⟨xs,e,z,r.fresh hc⟩
 | dict ds=>obtain ⟨ep,xs,n,e,z,r⟩:=h;exact ⟨ep,xs,n,e,z,r.fresh hc⟩
 | _=>exact absurd h id
theorem Dm.ro {d:PyData} {v:V} (h:Dm K F H d v) (hi:∀ b,I b->F b) (l:(∃ ds,d=.list ds)\/∃ ds,d=.dict ds):∃ a,v=.ref a/\d4 K F I H d a:=by
 rcases l with ⟨ds,rfl⟩ | ⟨ds,rfl⟩
 ·obtain ⟨a,xs,e,l,z,r⟩:=h;exact ⟨a,e,xs,l.elim (fun q=>.inl ⟨fun z=>q.1 (hi _ z),q.2⟩) .inr,z,r⟩
 ·obtain ⟨a,ep,xs,e,n,l,z,r⟩:=h;exact ⟨a,e,ep,xs,fun q=>n (hi _ q),l,z,r⟩
theorem Top.ro {d:PyData} {a:Addr} (h:Top K F H d a) (n:¬I a):d4 K F I H d a:=by
 cases d with
 | list ds=>obtain ⟨xs,e,z,r⟩:=h;exact ⟨xs,.inl ⟨n,.inl e⟩,z,r⟩
 | dict ds=>obtain ⟨ep,xs,e,z,r⟩:=h;exact ⟨ep,xs,n,e,z,r⟩
 | _=>exact absurd h id
theorem Rel.ia (R:Rel K F0 H₀ I env σ H) {b:Addr} (h:IA env σ b):FF F0 env σ b:=by
 obtain ⟨i,⟨d,e | e⟩,s⟩:=h
 ·exact .inr ⟨i,d,e,s⟩
 ·obtain ⟨a,s',f,_⟩:=R.ino i d e;rw [s] at s';cases s';exact .inl f
theorem Rel.iaT (R:Rel K F0 H₀ I env σ H) {b:Addr} (h:IA env σ b):∃ o,H b=some o/\Wr o=true:=by
 obtain ⟨i,⟨d,e | e⟩,s⟩:=h
 ·obtain ⟨a,s',_,_,t⟩:=R.own i d e;rw [s] at s';cases s';exact t.wr
 ·obtain ⟨a,s',_,_,t⟩:=R.ino i d e;rw [s] at s';cases s';exact t.wr
theorem Rel.iaI (R:Rel K F0 H₀ I env σ H) {b:Addr} (h:IA env σ b):H₀ b=none\/I b:=by
 obtain ⟨i,⟨d,e | e⟩,s⟩:=h
 ·obtain ⟨a,s',_,q,t⟩:=R.own i d e;rw [s] at s';cases s';exact q
 ·obtain ⟨a,s',_,q,t⟩:=R.ino i d e;rw [s] at s';cases s';exact .inr q
theorem Rel.dB (R:Rel K F0 H₀ I env σ H) {b:Addr} (h:FF F0 env σ b):H b≠none:=by
 rcases h with h | ⟨i,d,e,s⟩
 ·exact R.dom b h
 ·obtain ⟨o,q,_⟩:=R.iaT ⟨i,⟨d,.inl e⟩,s⟩;rw [q];exact nofun
theorem Rel.oz (R:Rel K F0 H₀ I env σ H) (k:∀ b o,H b=some o->¬IA env σ b->H' b=some o):Pr (FF F0 env σ) H H':=fun b o h n=>k b o h fun q=>by
 rcases n with n | n
 ·exact n (R.ia q)
 ·obtain ⟨o',h',w⟩:=R.iaT q;rw [h] at h';cases h';rw [n] at w;cases w
theorem Rel.rebase (R:Rel K F0 H₀ I env σ H):Rel K F0 H (IA env σ) env σ H :=
 ⟨R.len,R.dat,fun i d e=>let ⟨a,s,n,_,t⟩:=R.own i d e;⟨a,s,n,.inr ⟨i,⟨d,.inl e⟩,s⟩,t⟩,fun i d e=>let ⟨a,s,n,_,t⟩:=R.ino i d e;⟨a,s,n,⟨i,⟨d,.inr e⟩,s⟩,t⟩,R.ro,R.sep,R.dom,fun _ _ h _=>h⟩
theorem Rel.oi (R:Rel K F0 H₀ I env σ H) {a:Addr} (h:H a=none\/IA env σ a):H₀ a=none\/I a:=by
 rcases h with h | h
 ·cases e:H₀ a with
  | none=>exact .inl rfl
  | some o =>
   by_cases z:I a
   ·exact .inr z
   ·have:=R.cL a o e z;rw [h] at this;cases this
 ·exact R.iaI h
theorem Rel.aW (R:Rel K F0 H₀ I env σ H) (S:Rel K F0 H (IA env σ) env' σ' H'):Rel K F0 H₀ I env' σ' H':=by
 refine ⟨S.len,S.dat,fun i d e=>?_,fun i d e=>?_,S.ro,S.sep,S.dom,fun b o h n=>?_⟩
 ·obtain ⟨a,s,n,q,t⟩:=S.own i d e;exact ⟨a,s,n,R.oi q,t⟩
 ·obtain ⟨a,s,n,q,t⟩:=S.ino i d e;refine ⟨a,s,n,?_,t⟩;obtain ⟨j,⟨d',e' | e'⟩,s'⟩:=q
  ·obtain ⟨a',s2,n',_⟩:=R.own j d' e';rw [s'] at s2;cases s2;exact absurd n n'
  ·obtain ⟨a',s2,_,n',_⟩:=R.ino j d' e';rw [s'] at s2;cases s2;exact n'
 ·refine S.cL b o (R.cL b o h n) fun q=>?_;rcases R.iaI q with z | z
  ·rw [h] at z;cases z
  ·exact n z
def Evo:Sl->Sl->Prop
 | .un,s=>s=.un
 | .dat d,s=>s=.dat d
 | .own _,s=>(∃ d,s=.own d)\/(∃ d,s=.dat d)\/s=.un
 | .ino _,s=>∃ d,s=.ino d
 | .ro d,s=>s=.ro d
def KpE (env env':En):Prop:=env'.length=env.length/\∀ (i:Nat) (s:Sl),env[i]?=some s->∃ s',env'[i]?=some s'/\Evo s s'
theorem Evo.refl:∀ s,Evo s s
 | .un=>rfl
 | .dat _=>rfl
 | .own d=>.inl ⟨d,rfl⟩
 | .ino d=>⟨d,rfl⟩
 | .ro _=>rfl
theorem Evo.trans:∀ {a b c:Sl},Evo a b->Evo b c->Evo a c
 | .un,b,c,h,q=>by rw [show b=.un from h] at q;exact q
 | .dat d,b,c,h,q=>by rw [show b=.dat d from h] at q;exact q
 | .own d,b,c,h,q=>by
  rcases h with ⟨d,rfl⟩ | ⟨d,rfl⟩ | rfl
  ·exact q
  ·exact .inr (.inl ⟨d,q⟩)
  ·exact .inr (.inr q)
 | .ino d,b,c,h,q=>by obtain ⟨d,rfl⟩:=h;exact q
 | .ro d,b,c,h,q=>by rw [show b=.ro d from h] at q;exact q
theorem KpE.refl (env:En):KpE env env:=⟨rfl,fun i s e=>⟨s,e,.refl s⟩⟩
theorem KpE.trans {e1 e2 e3:En} (a:KpE e1 e2) (b:KpE e2 e3):KpE e1 e3:=⟨b.1.trans a.1,fun i s e=>by
 obtain ⟨s1,h1,v1⟩:=a.2 i s e;obtain ⟨s2,h2,v2⟩:=b.2 i s1 h1
 exact ⟨s2,h2,v1.trans v2⟩⟩
theorem KpE.back (k:KpE env env') {i:Nat} {s':Sl} (e:env'[i]?=some s'):∃ s,env[i]?=some s/\Evo s s':=by
 have hi:i < env'.length:=(Js.mp e).1;have:env[i]?=some (env[i]'(by rw [<- k.1];exact hi)):=Jq _;obtain ⟨s2,h2,v⟩:=k.2 i _ this;rw [e] at h2;cases h2;exact ⟨_,this,v⟩
theorem KpE.own (k:KpE env env') {i:Nat} {d:PyData} (e:env'[i]?=some (.own d)):∃ d',env[i]?=some (.own d'):=by
 obtain ⟨s,h,v⟩:=k.back e;cases s with
 | un=>cases v
 | dat _=>cases v
 | own d'=>exact ⟨d',h⟩
 | ino _=>obtain ⟨_,v⟩:=v;cases v
 | ro _=>cases v
theorem KpE.ff (k:KpE env env') {b:Addr} (h:FF F0 env' σ b):FF F0 env σ b:=by
 rcases h with h | ⟨i,d,e,s⟩
 ·exact .inl h
 ·obtain ⟨d',e'⟩:=k.own e;exact .inr ⟨i,d',e',s⟩
theorem KpE.mu (k:KpE env env') {i:Nat} (h:mu env' i):mu env i:=by
 obtain ⟨d,h | h⟩:=h
 ·obtain ⟨d',e⟩:=k.own h;exact ⟨d',.inl e⟩
 ·obtain ⟨s,h,v⟩:=k.back h;cases s with
  | un=>cases v
  | dat _=>cases v
  | own d'=>rcases v with ⟨_,v⟩ | ⟨_,v⟩ | v <;> cases v
  | ino d'=>exact ⟨d',.inr h⟩
  | ro _=>cases v
theorem KpE.ia (k:KpE env env') {b:Addr} (h:IA env' σ b):IA env σ b:=let ⟨i,m,s⟩:=h;⟨i,k.mu m,s⟩
theorem Rel.m7 (R:Rel K F0 H₀ I env σ H) (S:Rel K F0 H (IA env σ) env' σ H') (k:KpE env env') {d:PyData} {v:V} (h:Dm K (FF F0 env σ) H d v):Dm K (FF F0 env' σ) H' d v :=
 h.pr (R.oz fun b o e n=>S.cL b o e n) fun _ z=>k.ff z
theorem Rel.same (R:Rel K F0 H₀ I env σ H) (s:ar H H'):Rel K F0 H₀ I env σ H':=by
 have p:Pr (FF F0 env σ) H H':=Pr.of_same s;refine ⟨R.len,fun i d e=>?_,fun i d e=>?_,fun i d e=>?_,fun i d e=>?_,R.sep,fun b h=>?_,fun b o h n=>s _ _ (R.cL b o h n)⟩
 ·obtain ⟨v,q,r⟩:=R.dat i d e;exact ⟨v,q,r.pr p fun _ z=>z⟩
 ·obtain ⟨a,q,n,w,t⟩:=R.own i d e;exact ⟨a,q,n,w,t.pr p (fun _ z=>z) (fun o z=>s _ _ z)⟩
 ·obtain ⟨a,q,n,w,t⟩:=R.ino i d e;exact ⟨a,q,n,w,t.pr p (fun _ z=>z) (fun o z=>s _ _ z)⟩
 ·obtain ⟨a,q,t⟩:=R.ro i d e;exact ⟨a,q,t.pr p (fun _ z=>z) (fun _ z=>z) (fun b o z _=>s _ _ z)⟩
 ·cases e:H b with
  | none=>exact absurd e (R.dom b h)
  | some o=>rw [s _ _ e];exact nofun
theorem d6 {c:Addr}:FF (fun b=>F0 b\/b=c) env σ=fun b=>FF F0 env σ b\/b=c:=by
 funext b;apply propext;constructor
 ·rintro ((h | h) | h)
  ·exact .inl (.inl h)
  ·exact .inr h
  ·exact .inl (.inr h)
 ·rintro ((h | h) | h)
  ·exact .inl (.inl h)
  ·exact .inr h
  ·exact .inl (.inr h)
theorem Rel.fresh (R:Rel K F0 H₀ I env σ H) {c:Addr} (hc:H c=none) {H':Hp} (s:ar H H') (hc':H' c≠none):Rel K (fun b=>F0 b\/b=c) H₀ I env σ H':=by
 have p:Pr (fun b=>FF F0 env σ b\/b=c) H H':=Pr.of_same s;have na:∀ i a,mu env i->σ[i]?=some (some (.ref a))->a≠c:=fun i a m q z=>by
  obtain ⟨o,h,_⟩:=R.iaT ⟨i,m,q⟩;rw [z,hc] at h;cases h
 refine ⟨R.len,fun i d e=>?_,fun i d e=>?_,fun i d e=>?_,fun i d e=>?_,R.sep,fun b h=>?_,fun b o h n=>s _ _ (R.cL b o h n)⟩
 ·obtain ⟨v,q,r⟩:=R.dat i d e;rw [d6];exact ⟨v,q,(r.fresh hc).pr p fun _ z=>z⟩
 ·obtain ⟨a,q,n,w,t⟩:=R.own i d e;rw [d6];exact ⟨a,q,fun z=>z.elim n (na i a ⟨d,.inl e⟩ q),w,(t.fresh hc).pr p (fun _ z=>z) (fun o z=>s _ _ z)⟩
 ·obtain ⟨a,q,n,w,t⟩:=R.ino i d e;rw [d6];exact ⟨a,q,.inl n,w,(t.fresh hc).pr p (fun _ z=>z) (fun o z=>s _ _ z)⟩
 ·obtain ⟨a,q,t⟩:=R.ro i d e;rw [d6];exact ⟨a,q,(t.fresh hc).pr p (fun _ z=>z) (fun _ z=>z) (fun b o z _=>s _ _ z)⟩
 ·rcases h with h | h
  ·cases e:H b with
   | none=>exact absurd e (R.dom b h)
   | some o=>rw [s _ _ e];exact nofun
  ·rw [h];exact hc'
theorem Rel.less {c:Addr} (R:Rel K (fun b=>F0 b\/b=c) H₀ I env σ H) (hi:∀ (i:Nat) (d:PyData),env[i]?=some (.ino d)->σ[i]?≠some (some (.ref c))):Rel K F0 H₀ I env σ H:=by
 have hf:∀ b,FF F0 env σ b->FF (fun b=>F0 b\/b=c) env σ b:=fun b z=>by rw [d6];exact .inl z
 refine ⟨R.len,fun i d e=>?_,fun i d e=>?_,fun i d e=>?_,fun i d e=>?_,R.sep,fun b h=>R.dom b (.inl h),R.cL⟩
 ·obtain ⟨v,q,r⟩:=R.dat i d e;exact ⟨v,q,r.mono hf⟩
 ·obtain ⟨a,q,n,w,t⟩:=R.own i d e;exact ⟨a,q,fun z=>n (.inl z),w,t.pr Pr.refl hf fun _ z=>z⟩
 ·obtain ⟨a,q,n,w,t⟩:=R.ino i d e;refine ⟨a,q,?_,w,t.pr Pr.refl hf fun _ z=>z⟩;rcases n with n | n
  ·exact n
  ·exact absurd (n▸q) (hi i d e)
 ·obtain ⟨a,q,t⟩:=R.ro i d e;exact ⟨a,q,t.pr Pr.refl hf (fun _ z=>z) fun _ _ z _=>z⟩
end
open PySem
def vV (K:Fg) (F:Addr->Prop) (H H':Hp):PR->V->Prop
 | .dat d,v=>Dm K F H' d v
 | .frs d,v=>∃ a,v=.ref a/\H a=none/\Top K (fun b=>F b\/b=a) H' d a
def VwL (K:Fg) (F:Addr->Prop) (H:Hp):List PyData->List V->Prop
 | [],vs=>vs=[]
 | d :: ds,vs=>∃ v r,vs=v :: r/\Vw K F H d v/\VwL K F H ds r
structure Cst where
 d:PyData
 v:V
 ok:∀ (K:Fg) (F:Addr->Prop) (H:Hp),Dm K F H d v
def Cst.i (i:Int):Cst:=⟨.int i,.int i,fun _ _ _=>rfl⟩
def Cst.s (x:Str) (h:x.length<=sizeLine) (h2:PyData.strOk x=true):Cst:=⟨.str x,.str x,fun _ _ _=>⟨rfl,h,h2⟩⟩
def Cst.b (b:Bool):Cst:=⟨.bool b,.bl b,fun _ _ _=>rfl⟩
def Cst.n:Cst:=⟨.none,.non,fun _ _ _=>rfl⟩
structure Prm where
 r:Fg->List V->Hp->VK->Prop
 f:List PyData->Option PR
 ok:∀ (K:Fg) (F:Addr->Prop) (H:Hp) (ds:List PyData) (vs:List V) (pr:PR) (Q:VK),f ds=some pr->VwL K F H ds vs->(∀ b,F b->H b≠none)->(∀ v H',ar H H'->vV K F H H' pr v->Q v H')->r K vs H Q
structure Mtd where
 T:String
 r:Fg->V->List V->Hp->VK->Prop
 ty:PyData->Bool
 f:PyData->List PyData->Option PR
 AR:∀ (K:Fg) (F:Addr->Prop) (H:Hp) (d:PyData) (v:V),ty d=true->Vw K F H d v->tyV K T v H
 ok:∀ (K:Fg) (F:Addr->Prop) (H:Hp) (d:PyData) (v:V) (ds:List PyData) (vs:List V) (pr:PR) (Q:VK),f d ds=some pr->Vw K F H d v->VwL K F H ds vs->(∀ b,F b->H b≠none)->(∀ v H',ar H H'->vV K F H H' pr v->Q v H')->r K v vs H Q
def MvL (K:Fg) (F:Addr->Prop) (H:Hp):List (Bool×PyData)->List V->Prop
 | [],vs=>vs=[]
 | (true,d) :: ds,vs=>∃ v r,vs=v :: r/\Dm K F H d v/\MvL K F H ds r
 | (false,d) :: ds,vs=>∃ v r,vs=v :: r/\Vw K F H d v/\MvL K F H ds r
structure Mtr where
 T:String
 r:Fg->V->List V->Hp->VK->Prop
 ty:PyData->Bool
 f:PyData->List (Bool×PyData)->Option (PyData×PyData)
 AR:∀ (K:Fg) (F:Addr->Prop) (H:Hp) (d:PyData) (a:Addr),ty d=true->Top K F H d a->tyV K T (.ref a) H
 ok:∀ (K:Fg) (F:Addr->Prop) (H:Hp) (d:PyData) (a:Addr) (as:List (Bool×PyData)) (vs:List V) (d' x:PyData) (Q:VK),f d as=some (d',x)->F a->Top K F H d a->MvL K F H as vs ->
  (∀ v H',(∀ b o,b≠a->H b=some o->H' b=some o)->Top K F H' d' a->Dm K F H' x v->Q v H')->r K (.ref a) vs H Q
structure vT where
 r:Fg->V->V->V->Hp->(Hp->Prop)->Prop
 f:PyData->PyData->PyData->Option PyData
 ok:∀ (K:Fg) (F:Addr->Prop) (H:Hp) (d:PyData) (a:Addr) (k x:PyData) (vk vx:V) (d':PyData) (Q:Hp->Prop),f d k x=some d'->F a->Top K F H d a->Vw K F H k vk->Dm K F H x vx ->
  (∀ H',(∀ b o,b≠a->H b=some o->H' b=some o)->Top K F H' d' a->Q H')->r K (.ref a) vk vx H Q
mutual
inductive XE where
 | var (i:Nat) | mov (i:Nat) | tke (i:Nat) | cst (c:Cst) | glb (g:Nat)
 | prm (p:Prm) (as:XA) | met (m:Mtd) (o:XE) (as:XA) | mtr (m:Mtr) (i:Nat) (as:XA) | call (f:Fn) (as:XA)
 | tup (as:XA) | lst (as:XA) | dsp (as:XP) | fst (as:XA)
 | ifx (c:XT) (a b:XE) | uj (a b:XE) | orv (a b:XE) | xK (a:XE) | chn (p q:Prm) (a b c:XE) | sl2 (p:Int->Int->Prm) (a b c:XE)
 | cmp (js:List Nat) (it:XI) (c:XT) (e:XE) | Ci (n:List Str) (js:List Nat) (it:XI) (e:XE)
inductive XA where | nil | cons (e:XE) (r:XA)
inductive XP where | nil | cons (k e:XE) (r:XP)
inductive XT where | tst (e:XE) | tru (e:XE) | and (a b:XT) | or (a b:XT) | not (a:XT) | yes
inductive XI where | lst (e:XE) | tup (e:XE) | str (e:XE) | rng1 (as:XA) | rng2 (as:XA) | dct (e:XE) | zip (as:XA) | sq (e:XE)
end
inductive XS where
 | skip | seq (a b:XS) | bz (i:Nat) (e:XE) | u0 (i:Nat) (e:XE) | Bk (is:List Nat) (e:XE) | drop (e:XE) | ret (e:XE) | DP
 | ifs (c:XT) (a b:XS) | fr (i:Nat) (it:XI) (b:XS) | frT (is:List Nat) (it:XI) (b:XS) | wh (n:Nat) (c:XT) (b:XS) | brk | cnt | nev | sto (m:vT) (i:Nat) (k e:XE)
def gNs:List Nat->TGs
 | []=>Ip
 | i :: r=>Ee (bQ i) (gNs r)
def gTp (K:PySem.W.Frag) (is:List Nat):TG:=Ji K is.length (gNs is)
def IG:List TE->TE:=fun ts=>tFs ts Str.empty
def NoE:XK:=fun _ _ _=>False
def zA (K:PySem.W.Frag) (G I:Addr->Prop) (H:Hp) (d:PyData) (v:V):Prop:=match d with
 | .tuple ds=>Dm K G H (.tuple ds) v
 | d=>∃ a,v=.ref a/\d4 K G I H d a
def bw (K:PySem.W.Frag) (G I:Addr->Prop) (H:Hp):List PM->List PyData->List V->List Addr->Prop
 | [],[],[],is=>is=[]
 | .dat :: ms,d :: ds,v :: vs,is=>Dm K G H d v/\bw K G I H ms ds vs is
 | .bor :: ms,d :: ds,v :: vs,is=>zA K G I H d v/\bw K G I H ms ds vs is
 | .ino :: ms,d :: ds,v :: vs,is=>∃ a r,v=.ref a/\is=a :: r/\G a/\Top K G H d a/\a ∉ r/\bw K G I H ms ds vs r
 | _,_,_,_=>False
def ix (K:PySem.W.Frag) (G:Addr->Prop) (H:Hp):List PyData->List Addr->Prop
 | [],[]=>True
 | d :: ds,a :: r=>Top K G H d a/\ix K G H ds r
 | _,_=>False
def FU (K:PySem.W.Frag) (G:Addr->Prop) (H H':Hp) (outs:List PyData) (is:List Addr):PR->V->Prop
 | .dat d,v=>Dm K G H' d v/\ix K G H' outs is
 | .frs d,v=>∃ a,v=.ref a/\H a=none/\Top K (fun b=>G b\/b=a) H' d a/\ix K (fun b=>G b\/b=a) H' outs is
def cE (f:Fn) (K:PySem.W.Frag):Sp:=fun vs H Q _=>∃ (G:Addr->Prop) (ds:List PyData) (is:List Addr) (pr:PR) (outs:List PyData),f.F ds=some (pr,outs)/\bw K G (·∈is) H f.ms ds vs is/\(∀ b,G b->H b≠none) /\
 ∀ v' H',(∀ b o,H b=some o->b ∉ is->H' b=some o)->FU K G H H' outs is pr v'->Q v' H'
section
variable (K:PySem.W.Frag) (ga:Nat->V)
mutual
noncomputable def rE:XE->TE
 | .var i=>kX i | .mov i=>kX i | .tke i=>kX i | .cst c=>tC c.v | .glb g=>tC (ga g)
 | .prm p as=>tCB (p.r K) (rA as) | .met m o as=>tBM K m.T (m.r K) (rE o) (rA as) | .mtr m i as=>tBM K m.T (m.r K) (kX i) (rA as) | .call f as=>j5 (cE f K) [] NoE (rA as)
 | .tup as=>DU (rA as) | .lst as=>yL (rA as) | .dsp as=>qt (rP as) | .fst as=>IG (rF as)
 | .ifx c a b=>tIf (rT c) (rE a) (rE b) | .uj a b=>yp (rE a) (rE b) | .orv a b=>EK (rE a) (rE b) | .xK a=>xq (rE a)
 | .chn p q a b c=>kY (fun x y=>p.r K [x,y]) (fun x y=>q.r K [x,y]) (rE a) (rE b) (rE c)
 | .sl2 p a b c=>fun σ H Q=>rE a σ H fun x H1=>rE b σ H1 fun y H2=>∃ i,y=.int i/\rE c σ H2 fun z H3=>∃ j,z=.int j/\(p i j).r K [x] H3 Q
 | .cmp js it c e=>oI js (rI_ it) (rT c) (rE e) | .Ci n js it e=>AN n js (rI_ it) (gTp K (List.range n.length)) (rE e)
noncomputable def rA:XA->TA
 | .nil=>gp | .cons e r=>aR (rE e) (rA r)
noncomputable def rF:XA->List TE
 | .nil=>[] | .cons e r=>rE e :: rF r
noncomputable def rP:XP->List (TE×TE)
 | .nil=>[] | .cons k e r=>(rE k,rE e) :: rP r
noncomputable def rT:XT->TT
 | .tst e=>tB (rE e) | .tru e=>Iq K (rE e) | .and a b=>ES (rT a) (rT b) | .or a b=>tOr (rT a) (rT b) | .not a=>Eh (rT a) | .yes=>Fp
noncomputable def rI_:XI->TI
 | .lst e=>uD K (rE e) | .tup e=>DM K (rE e) | .str e=>GP (rE e) | .rng1 as=>yf (rA as) | .rng2 as=>EM (rA as) | .dct e=>Ia (rE e) | .zip as=>Il K (rA as) | .sq e=>Ht K (rE e)
end
def rS:XS->TS
 | .skip=>pN | .seq a b=>wk (rS a) (rS b) | .bz i e=>kN (rE K ga e) (bQ i) | .u0 i e=>kN (rE K ga e) (bQ i) | .Bk is e=>kN (rE K ga e) (gTp K is) | .drop e=>yJ (rE K ga e) | .ret e=>yq (rE K ga e) | .DP=>FN
 | .ifs c a b=>zg (rT K ga c) (rS a) (rS b) | .fr i it b=>A3 (rI_ K ga it) (bQ i) (rS b) | .frT is it b=>A3 (rI_ K ga it) (gTp K is) (rS b) | .wh n c b=>se (rT K ga c) (rS b) | .brk=>zW | .cnt=>Fb | .nev=>B3
 | .sto m i k e=>fun D σ H=>rE K ga e σ H fun x H1=>kX i σ H1 fun o H2=>rE K ga k σ H2 fun y H3=>m.r K o y x H3 (D.nx σ)
end
noncomputable def FA:PyData->Bool
 | .none=>false | .bool b=>b | .int i=>i != 0 | .str x=>(x.length:Int) != 0 | .list ds=>!ds.isEmpty | .tuple ds=>!ds.isEmpty | .dict ds=>!ds.isEmpty
noncomputable def EB:PyData->Bool | .dict _=>true | _=>false
noncomputable def ma (lk:Bool):Sl->Sl
 | .own d=>if lk then .ro d else .ino d
 | .ino d=>if lk then .ro d else .ino d
 | s=>s
noncomputable def du (env:En) (lock:Option Nat) (js:List Nat):En:=js.map fun j=>ma (decide (lock=some j)) (env[j]?.getD .un)
noncomputable def aD:En->List Nat->En->En
 | env,j :: js,.ino d :: es=>aD (fH env j d) js es
 | env,_ :: js,_ :: es=>aD env js es
 | env,_,_=>env
noncomputable def uq (step:PyData->En->Option (Option PyData×En)):List PyData->En->Option (List PyData×En)
 | [],env=>some ([],env)
 | d :: ds,env=>match step d env with
  | some (y,e1)=>match uq step ds e1 with
   | some (ys,e2)=>some (y.toList++ys,e2)
   | none=>none
  | none=>none
noncomputable def GX (env:En):PM->AV->Option PyData
 | .dat,.dat d=>some d
 | .bor,.dat (.list d)=>some (.list d)
 | .bor,.dat (.dict d)=>some (.dict d)
 | .bor,.dat (.tuple d)=>some (.tuple d)
 | .bor,.bor i=>cont env i
 | .ino,.bor i=>aC env i
 | _,_=>none
noncomputable def iO (env:En):List PM->List AV->Option (List PyData)
 | [],[]=>some []
 | m :: ms,a :: as=>match GX env m a,iO env ms as with
  | some d,some ds=>some (d :: ds)
  | _,_=>none
 | _,_=>none
noncomputable def cg:List PM->List AV->List Nat
 | .ino :: ms,.bor i :: as=>i :: cg ms as
 | _ :: ms,_ :: as=>cg ms as
 | _,_=>[]
noncomputable def tY:List PM->List AV->List Nat
 | .bor :: ms,.bor i :: as=>i :: tY ms as
 | _ :: ms,_ :: as=>tY ms as
 | _,_=>[]
noncomputable def cK:En->List Nat->List PyData->En
 | env,i :: is,d :: ds=>cK (fH env i d) is ds
 | env,_,_=>env
noncomputable def zq:List Nat->Bool
 | []=>true
 | x :: xs=>!xs.contains x&&zq xs
noncomputable def ckA (is bs:List Nat) (n:Nat):Bool:=zq is&&(bs.all (fun i=>!is.contains i)&&n==is.length)
noncomputable def uB (f:Fn) (avs:List AV) (env:En):Option (RV×En) :=
 match iO env f.ms avs with
 | none=>none
 | some ds=>match f.F ds with
  | none=>none
  | some (pr,outs)=>if ckA (cg f.ms avs) (tY f.ms avs) outs.length=true then some (pr.rv,cK env (cg f.ms avs) outs) else none
noncomputable def aE (env:En):List AV->Option (List PyData)
 | []=>some []
 | a :: as=>match a.view env,aE env as with
  | some d,some ds=>some (d :: ds)
  | _,_=>none
noncomputable def AV.ET:AV->Bool | .dat _=>true | .bor _=>false
noncomputable def c5 (env:En):List AV->Option (List (Bool×PyData))
 | []=>some []
 | a :: as=>match a.view env,c5 env as with
  | some d,some ds=>some ((a.ET,d) :: ds)
  | _,_=>none
noncomputable def ke:List AV->Option (List PyData)
 | []=>some []
 | .dat d :: as=>match ke as with | some ds=>some (d :: ds) | none=>none
 | .bor _ :: _=>none
noncomputable def F7:List AV->Option (List Str)
 | []=>some []
 | .dat (.str x) :: as=>match F7 as with | some ds=>some (x :: ds) | none=>none
 | _ :: _=>none
noncomputable def keyOf:PyData->Option Key | .int i=>some (.inl i) | .str x=>some (.inr x) | _=>none
noncomputable def putD (kvs:List (PyData×PyData)) (k d:PyData):List (PyData×PyData) :=
 if (kvs.any fun kv=>PyData.eqv kv.1 k)=true then kvs.map (fun kv=>if PyData.eqv kv.1 k=true then (kv.1,d) else kv) else kvs++[(k,d)]
noncomputable def getD (kvs:List (PyData×PyData)) (k:PyData):Option PyData:=(kvs.find? fun kv=>PyData.eqv kv.1 k).map (·.2)
noncomputable def bq (env:En):Option Nat->En
 | some i=>match env[i]? with | some (.own d)=>env.set i (.ro d) | some (.ino d)=>env.set i (.ro d) | _=>env
 | none=>env
noncomputable def ak (DV:En) (lock:Option Nat) (env:En):En:=match lock with
 | some i=>match DV[i]?,env[i]? with
  | some (.own _),some (.ro d)=>env.set i (.own d)
  | some (.ino _),some (.ro d)=>env.set i (.ino d)
  | _,_=>env
 | none=>env
noncomputable def gZ (t:En->Option (Bool×En)) (b:En->Option (RV×En)) (d:PyData) (ec:En):Option (Option PyData×En):=match t (.dat d :: ec) with
 | some (true,e2)=>match b e2 with
  | some (rv,e3)=>match rv.av with | .dat y=>some (some y,e3.tail) | .bor _=>none
  | none=>none
 | some (false,e2)=>some (none,e2.tail)
 | none=>none
noncomputable def jt (n:Nat) (b:En->Option (RV×En)) (d:PyData) (ec:En):Option (Option PyData×En):=match d with
 | .tuple xs=>if xs.length=n then match b (xs.map .dat++ec) with
   | some (rv,e3)=>match rv.av with | .dat y=>some (some y,e3.drop n) | .bor _=>none
   | none=>none
  else none
 | _=>none
noncomputable def roL (e:En):AV->Option (List PyData)
 | .dat (.list xs)=>some xs
 | .bor i=>match e[i]? with | some (.ro (.list xs))=>some xs | _=>none
 | _=>none
mutual
noncomputable def dE (gd:List PyData):XE->En->Option (RV×En)
 | .var i,env=>match env[i]? with | some (.dat d)=>some (.dat d,env) | some (.own _)=>some (.bor i,env) | some (.ino _)=>some (.bor i,env) | some (.ro _)=>some (.bor i,env) | _=>none
 | .mov i,env=>match env[i]? with | some (.own d)=>some (.dat d,env.set i (.dat d)) | _=>none
 | .tke i,env=>match env[i]? with | some (.own d)=>some (.frs d,env.set i .un) | _=>none
 | .cst c,env=>some (.dat c.d,env)
 | .glb g,env=>match gd[g]? with | some d=>some (.dat d,env) | none=>none
 | .prm p as,env=>match dA gd as env with
  | some (avs,e1)=>match aE e1 avs with
   | some ds=>match p.f ds with | some pr=>some (pr.rv,e1) | none=>none
   | none=>none
  | none=>none
 | .met m o as,env=>match dE gd o env with
  | some (rv,e1)=>match rv.view e1 with
   | some d0=>if m.ty d0=true then match dA gd as e1 with
     | some (avs,e2)=>match rv.view e2,aE e2 avs with
      | some d,some ds=>match m.f d ds with | some pr=>some (pr.rv,e2) | none=>none
      | _,_=>none
     | none=>none
    else none
   | none=>none
  | none=>none
 | .mtr m i as,env=>match aC env i with
  | some d0=>if m.ty d0=true then match dA gd as env with
    | some (avs,e1)=>match aC e1 i,c5 e1 avs with
     | some d,some ds=>match m.f d ds with | some (d',x)=>some (.dat x,fH e1 i d') | none=>none
     | _,_=>none
    | none=>none
   else none
  | none=>none
 | .call f as,env=>match dA gd as env with
  | some (avs,e1)=>uB f avs e1
  | none=>none
 | .tup as,env=>match dA gd as env with
  | some (avs,e1)=>match ke avs with | some ds=>if ds.length<=sizeLine then some (.dat (.tuple ds),e1) else none | none=>none
  | none=>none
 | .lst as,env=>match dA gd as env with
  | some (avs,e1)=>match ke avs with | some ds=>if ds.length<=sizeLine then some (.frs (.list ds),e1) else none | none=>none
  | none=>none
 | .dsp as,env=>match dP gd as env with
  | some (kvs,e1)=>if kvs.length<=15 then some (.frs (.dict (kvs.foldl (fun acc kv=>putD acc (kD kv.1) kv.2) [])),e1) else none
  | none=>none
 | .fst as,env=>match dF gd as Str.empty env with
  | some (x,e1)=>some (.dat (.str x),e1)
  | none=>none
 | .ifx c a b,env=>match dT gd c env with
  | some (true,e1)=>dE gd a e1
  | some (false,e1)=>dE gd b e1
  | none=>none
 | .uj a b,env=>match dE gd a env with
  | some (.dat (.bool true),e1)=>dE gd b e1
  | some (.dat (.bool false),e1)=>some (.dat (.bool false),e1)
  | _=>none
 | .orv a b,env=>match dE gd a env with
  | some (.dat (.bool true),e1)=>some (.dat (.bool true),e1)
  | some (.dat (.bool false),e1)=>dE gd b e1
  | _=>none
 | .xK a,env=>match dE gd a env with
  | some (.dat (.bool x),e1)=>some (.dat (.bool (!x)),e1)
  | _=>none
 | .chn p q a b c,env=>match dE gd a env with
  | some (ra,e1)=>match dE gd b e1 with
   | some (rb,e2)=>match ra.av,rb.av with
    | .dat x,.dat y=>match p.f [x,y] with
     | some (.dat (.bool true))=>match dE gd c e2 with
      | some (rc,e3)=>match rc.av with
       | .dat z=>match q.f [y,z] with | some pr=>some (pr.rv,e3) | none=>none
       | _=>none
      | none=>none
     | some (.dat (.bool false))=>some (.dat (.bool false),e2)
     | _=>none
    | _,_=>none
   | none=>none
  | none=>none
 | .sl2 p a b c,env=>match dE gd a env with
  | some (ra,e1)=>match dE gd b e1 with
   | some (.dat (.int i),e2)=>match dE gd c e2 with
    | some (.dat (.int j),e3)=>match ra.view e3 with
     | some d=>match (p i j).f [d] with | some pr=>some (pr.rv,e3) | none=>none
     | none=>none
    | _=>none
   | _=>none
  | none=>none
 | .cmp js it c e,env=>match dI gd it env with
  | some (ds,lock,e1)=>if js.Nodup then match uq (gZ (dT gd c) (dE gd e)) ds (du e1 lock js) with
    | some (ys,ec)=>some (.frs (.list ys),aD e1 js ec)
    | none=>none
   else none
  | none=>none
 | .Ci n js it e,env=>match dI gd it env with
  | some (ds,lock,e1)=>if js.Nodup then match uq (jt n.length (dE gd e)) ds (du e1 lock js) with
    | some (ys,ec)=>some (.frs (.list ys),aD e1 js ec)
    | none=>none
   else none
  | none=>none
noncomputable def dA (gd:List PyData):XA->En->Option (List AV×En)
 | .nil,env=>some ([],env)
 | .cons e r,env=>match dE gd e env with
  | some (rv,e1)=>match dA gd r e1 with
   | some (avs,e2)=>some (rv.av :: avs,e2)
   | none=>none
  | none=>none
noncomputable def dF (gd:List PyData):XA->Str->En->Option (Str×En)
 | .nil,out,env=>if out.length<=sizeLine then some (out,env) else none
 | .cons e r,out,env=>match dE gd e env with
  | some (.dat (.str x),e1)=>if (out++x).length<=sizeLine then dF gd r (out++x) e1 else none
  | _=>none
noncomputable def dP (gd:List PyData):XP->En->Option (List (Key×PyData)×En)
 | .nil,env=>some ([],env)
 | .cons k e r,env=>match dE gd k env with
  | some (rk,e1)=>match dE gd e e1 with
   | some (rv,e2)=>match dP gd r e2 with
    | some (kvs,e3)=>match rk.av,rv.av with
     | .dat dk,.dat d=>match keyOf dk with | some k=>some ((k,d) :: kvs,e3) | none=>none
     | _,_=>none
    | none=>none
   | none=>none
  | none=>none
noncomputable def dT (gd:List PyData):XT->En->Option (Bool×En)
 | .tst e,env=>match dE gd e env with | some (.dat (.bool b),e1)=>some (b,e1) | _=>none
 | .tru e,env=>match dE gd e env with
  | some (rv,e1)=>match rv.view e1 with | some d=>if EB d=true then none else some (FA d,e1) | none=>none
  | none=>none
 | .and a b,env=>match dT gd a env with | some (true,e1)=>dT gd b e1 | some (false,e1)=>some (false,e1) | none=>none
 | .or a b,env=>match dT gd a env with | some (true,e1)=>some (true,e1) | some (false,e1)=>dT gd b e1 | none=>none
 | .not a,env=>match dT gd a env with | some (b,e1)=>some (!b,e1) | none=>none
 | .yes,env=>some (true,env)
noncomputable def dI (gd:List PyData):XI->En->Option (List PyData×Option Nat×En)
 | .lst e,env=>match dE gd e env with
  | some (rv,e1)=>match rv.av with
   | .dat (.list ds)=>some (ds,none,e1)
   | .dat _=>none
   | .bor i=>match cont e1 i with | some (.list ds)=>some (ds,some i,e1) | _=>none
  | none=>none
 | .dct e,env=>match dE gd e env with
  | some (rv,e1)=>match rv.av with
   | .dat (.dict kvs)=>some (kvs.map (·.1),none,e1)
   | .dat _=>none
   | .bor i=>match cont e1 i with | some (.dict kvs)=>some (kvs.map (·.1),some i,e1) | _=>none
  | none=>none
 | .tup e,env=>match dE gd e env with
  | some (rv,e1)=>match rv.av with | .dat (.tuple ds)=>some (ds,none,e1) | _=>none
  | none=>none
 | .sq e,env=>match dE gd e env with
  | some (rv,e1)=>match rv.av with
   | .dat (.list ds)=>some (ds,none,e1)
   | .dat (.tuple ds)=>some (ds,none,e1)
   | .dat _=>none
   | .bor i=>match cont e1 i with | some (.list ds)=>some (ds,some i,e1) | _=>none
  | none=>none
 | .str e,env=>match dE gd e env with
  | some (rv,e1)=>match rv.av with | .dat (.str x)=>some (x.cps.toList.map fun c=>.str ⟨#[c]⟩,none,e1) | _=>none
  | none=>none
 | .rng1 as,env=>match dA gd as env with
  | some (avs,e1)=>match avs with | [.dat (.int j)]=>if -(2 ^ 62)<=j/\j<=2 ^ 24 then some ((List.range j.toNat).map fun (k:Nat)=>.int ((0:Int)+(k:Int)),none,e1) else none | _=>none
  | none=>none
 | .zip as,env=>match dA gd as env with
  | some (avs,e1)=>match avs with
   | [x,y]=>match roL e1 x,roL e1 y with | some xs,some ys=>some ((xs.zip ys).map fun p=>.tuple [p.1,p.2],none,e1) | _,_=>none
   | _=>none
  | none=>none
 | .rng2 as,env=>match dA gd as env with
  | some (avs,e1)=>match avs with | [.dat (.int i),.dat (.int j)]=>if -(2 ^ 62)<=i/\i < 2 ^ 62/\-(2 ^ 62)<=j/\j < 2 ^ 62/\j - i<=2 ^ 24 then some ((List.range (j - i).toNat).map fun (k:Nat)=>.int (i+(k:Int)),none,e1) else none | _=>none
  | none=>none
end
noncomputable def lkd (env:En):Option Nat->Bool
 | some i=>match env[i]? with | some (.own _)=>true | some (.ino _)=>true | _=>false
 | none=>false
noncomputable def RV.soft (b:Bool):RV->RV | .frs d=>if b then .dat d else .frs d | r=>r
inductive Out where | nx (env:En) | rt (rv:RV) (env:En) | bk (env:En) | ct (env:En)
noncomputable def Out.map (b:Bool) (f:En->En):Out->Out | .nx e=>.nx (f e) | .rt r e=>.rt (r.soft b) (f e) | .bk e=>.bk (f e) | .ct e=>.ct (f e)
noncomputable def forL (b:PyData->En->Option Out):List PyData->En->Option Out
 | [],env=>some (.nx env)
 | d :: ds,env=>match b d env with
  | some (.nx e)=>forL b ds e
  | some (.ct e)=>forL b ds e
  | some (.bk e)=>some (.nx e)
  | some (.rt r e)=>some (.rt r e)
  | none=>none
noncomputable def whL (t:En->Option (Bool×En)) (b:En->Option Out):Nat->En->Option Out
 | 0,_=>none
 | n+1,env=>match t env with
  | some (true,e1)=>match b e1 with
   | some (.nx e)=>whL t b n e
   | some (.ct e)=>whL t b n e
   | some (.bk e)=>some (.nx e)
   | some (.rt r e)=>some (.rt r e)
   | none=>none
  | some (false,e1)=>some (.nx e1)
  | none=>none
noncomputable def free (env:En) (i:Nat):Bool:=match env[i]? with | some .un=>true | some (.dat _)=>true | some (.own _)=>true | _=>false
noncomputable def eK:En->List Nat->List PyData->Option En
 | env,[],[]=>some env
 | env,i :: is,d :: ds=>if free env i=true then eK (env.set i (.dat d)) is ds else none
 | _,_,_=>none
noncomputable def i3 (i:Nat) (b:En->Option Out) (d:PyData) (e:En):Option Out:=if free e i=true then b (e.set i (.dat d)) else none
noncomputable def g7 (is:List Nat) (b:En->Option Out) (d:PyData) (e:En):Option Out:=match d with
 | .tuple xs=>match eK e is xs with | some e2=>b e2 | none=>none
 | _=>none
noncomputable def dS (gd:List PyData):XS->En->Option Out
 | .skip,env=>some (.nx env)
 | .seq a b,env=>match dS gd a env with
  | some (.nx e)=>dS gd b e
  | o=>o
 | .bz i e,env=>match dE gd e env with
  | some (rv,e1)=>match rv.av with | .dat d=>if free e1 i=true then some (.nx (e1.set i (.dat d))) else none | .bor _=>none
  | none=>none
 | .u0 i e,env=>match dE gd e env with
  | some (.frs d,e1)=>if free e1 i=true then some (.nx (e1.set i (.own d))) else none
  | _=>none
 | .Bk is e,env=>match dE gd e env with
  | some (rv,e1)=>match rv.av with
   | .dat (.tuple ds)=>match eK e1 is ds with | some e2=>some (.nx e2) | none=>none
   | _=>none
  | none=>none
 | .drop e,env=>match dE gd e env with | some (_,e1)=>some (.nx e1) | none=>none
 | .ret e,env=>match dE gd e env with | some (rv,e1)=>some (.rt rv e1) | none=>none
 | .DP,env=>some (.rt (.dat .none) env)
 | .ifs c a b,env=>match dT gd c env with
  | some (true,e1)=>dS gd a e1
  | some (false,e1)=>dS gd b e1
  | none=>none
 | .fr i it b,env=>match dI gd it env with
  | some (ds,lock,e1)=>(forL (i3 i (dS gd b)) ds (bq e1 lock)).map (Out.map (lkd e1 lock) (ak e1 lock))
  | none=>none
 | .frT is it b,env=>match dI gd it env with
  | some (ds,lock,e1)=>(forL (g7 is (dS gd b)) ds (bq e1 lock)).map (Out.map (lkd e1 lock) (ak e1 lock))
  | none=>none
 | .wh n c b,env=>whL (dT gd c) (dS gd b) n env
 | .brk,env=>some (.bk env)
 | .cnt,env=>some (.ct env)
 | .nev,_=>none
 | .sto m i k e,env=>match dE gd e env with
  | some (rv,e1)=>match rv.av with
   | .dat x=>match aC e1 i with
    | some _=>match dE gd k e1 with
     | some (rk,e2)=>match rk.view e2,aC e2 i with
      | some dk,some d=>match m.f d dk x with | some d'=>some (.nx (fH e2 i d')) | none=>none
      | _,_=>none
     | none=>none
    | none=>none
   | .bor _=>none
  | none=>none
noncomputable def yM:PyData->Sl | .tuple ds=>.dat (.tuple ds) | d=>.ro d
noncomputable def ah:List PM->List PyData->Nat->En
 | .dat :: ms,d :: ds,n=>.dat d :: ah ms ds (n - 1)
 | .bor :: ms,d :: ds,n=>yM d :: ah ms ds (n - 1)
 | .ino :: ms,d :: ds,n=>.ino d :: ah ms ds (n - 1)
 | _,_,n=>List.replicate n .un
noncomputable def ij:List PM->En->Option (List PyData)
 | .ino :: ms,.ino d :: es=>match ij ms es with | some ds=>some (d :: ds) | none=>none
 | .ino :: _,_=>none
 | _ :: ms,_ :: es=>ij ms es
 | _,_=>some []
noncomputable def RV.pr:RV->Option PR | .dat d=>some (.dat d) | .frs d=>some (.frs d) | .bor _=>none
noncomputable def cM (gd:List PyData) (ms:List PM) (n:Nat) (b:XS):Fn where
 ms:=ms
 F:=fun ds=>if ds.length=ms.length then match dS gd b (ah ms ds n) with
   | some (.rt rv env)=>match rv.pr,ij ms env with | some pr,some outs=>some (pr,outs) | _,_=>none
   | some (.nx env)=>match ij ms env with | some outs=>some (.dat .none,outs) | none=>none
   | _=>none
  else none
open PySem
theorem ar.rf (H:Hp):ar H H:=fun _ _ h=>h
theorem ar.nw {H:Hp} {a:Addr} (o:HO) (h:H a=none):ar H (upd H a o):=fun b u q=>by rw [ai (aA q h)];exact q
section
variable {K:Fg} {F F' I I' F0:Addr->Prop} {H H' H₀:Hp} {env env':En} {σ σ':St} {ga:Nat->V} {gd:List PyData}
def dH (K:Fg) (F0:Addr->Prop) (H₀:Hp) (I:Addr->Prop) (env:En) (σ:St) (H:Hp):RV->V->Prop
 | .dat d,v=>Dm K (FF F0 env σ) H d v
 | .bor i,v=>σ[i]?=some (some v)
 | .frs d,v=>∃ a,v=.ref a/\Rel K (fun b=>F0 b\/b=a) H₀ I env σ H/\Top K (fun b=>FF F0 env σ b\/b=a) H d a/\(H₀ a=none\/I a)/\¬FF F0 env σ a/\(∀ (i:Nat) (d':PyData),env[i]?=some (.ino d')->σ[i]?≠some (some (.ref a))) /\
   ∀ (i:Nat) (d':PyData),env[i]?=some (.ro d')->∃ b,σ[i]?=some (some (.ref b))/\d4 K (fun b=>FF F0 env σ b\/b=a) (fun b=>IA env σ b\/b=a) H d' b
def v9 (K:Fg) (F0:Addr->Prop) (env:En) (σ:St) (H:Hp):AV->V->Prop
 | .dat d,v=>Dm K (FF F0 env σ) H d v
 | .bor i,v=>σ[i]?=some (some v)
def fS (K:Fg) (F0:Addr->Prop) (env:En) (σ:St) (H:Hp):List AV->List V->Prop
 | [],vs=>vs=[]
 | a :: as,vs=>∃ v r,vs=v :: r/\v9 K F0 env σ H a v/\fS K F0 env σ H as r
theorem dH.av {rv:RV} {v:V} (h:dH K F0 H₀ I env σ H rv v):v9 K F0 env σ H rv.av v:=by
 cases rv with
 | dat d=>exact h
 | bor i=>exact h
 | frs d =>
  obtain ⟨a,e,R,t,_,n,_⟩:=h;subst e;exact (t.pr Pr.refl (F':=FF F0 env σ) (fun _ z=>.inl z) (fun _ z=>z)).dm n
theorem v9.keep (R:Rel K F0 H₀ I env σ H) (S:Rel K F0 H (IA env σ) env' σ H') (k:KpE env env') {a:AV} {v:V} (h:v9 K F0 env σ H a v):v9 K F0 env' σ H' a v:=by
 cases a with
 | dat d=>exact R.m7 S k h
 | bor i=>exact h
theorem Rel.Ea (R:Rel K F0 H₀ I env σ H) {i:Nat} {d:PyData} {v:V} (h:cont env i=some d) (s:σ[i]?=some (some v)):Vw K (FF F0 env σ) H d v:=by
 unfold cont at h;cases e:env[i]? with
 | none=>rw [e] at h;cases h
 | some sl =>
  rw [e] at h;cases sl with
  | un=>cases h
  | dat _=>cases h
  | own d' =>
   cases h;obtain ⟨a,q,_,_,t⟩:=R.own i d e;rw [s] at q;cases q;exact t.r.vw
  | ino d' =>
   cases h;obtain ⟨a,q,_,_,t⟩:=R.ino i d e;rw [s] at q;cases q;exact t.r.vw
  | ro d' =>
   cases h;obtain ⟨a,q,t⟩:=R.ro i d e;rw [s] at q;cases q;exact t.r.vw
theorem Rel.cH (R:Rel K F0 H₀ I env σ H) {i:Nat} {d:PyData} (h:aC env i=some d):mu env i/\∃ a,σ[i]?=some (some (.ref a))/\FF F0 env σ a/\Top K (FF F0 env σ) H d a:=by
 unfold aC at h;cases e:env[i]? with
 | none=>rw [e] at h;cases h
 | some sl =>
  rw [e] at h;cases sl with
  | un=>cases h
  | dat _=>cases h
  | own d' =>
   cases h;obtain ⟨a,q,_,_,t⟩:=R.own i d e;exact ⟨⟨d,.inl e⟩,a,q,.inr ⟨i,d,e,q⟩,t⟩
  | ino d' =>
   cases h;obtain ⟨a,q,f,_,t⟩:=R.ino i d e;exact ⟨⟨d,.inr e⟩,a,q,.inl f,t⟩
  | ro d'=>cases h
theorem v9.vw (R:Rel K F0 H₀ I env σ H) {a:AV} {v:V} {d:PyData} (h:v9 K F0 env σ H a v) (e:a.view env=some d):Vw K (FF F0 env σ) H d v:=by
 cases a with
 | dat d'=>cases e;exact Dm.vw h
 | bor i=>exact R.Ea e h
theorem fS.vw (R:Rel K F0 H₀ I env σ H):∀ {as:List AV} {vs:List V} {ds:List PyData},fS K F0 env σ H as vs->aE env as=some ds->VwL K (FF F0 env σ) H ds vs
 | [],_,ds,h,e=>by cases e;exact h
 | a :: as,_,ds,h,e=>by
  obtain ⟨v,r,rfl,h1,h2⟩:=h;unfold aE at e;cases e1:a.view env with
  | none=>rw [e1] at e;cases e
  | some d =>
   cases e2:aE env as with
   | none=>rw [e1,e2] at e;cases e
   | some ds' =>
    rw [e1,e2] at e;cases e;exact ⟨v,r,rfl,h1.vw R e1,fS.vw R h2 e2⟩
theorem fS.mv (R:Rel K F0 H₀ I env σ H):∀ {as:List AV} {vs:List V} {ds:List (Bool×PyData)},fS K F0 env σ H as vs->c5 env as=some ds->MvL K (FF F0 env σ) H ds vs
 | [],_,ds,h,e=>by cases e;exact h
 | a :: as,_,ds,h,e=>by
  obtain ⟨v,r,rfl,h1,h2⟩:=h;unfold c5 at e;cases e1:a.view env with
  | none=>rw [e1] at e;cases e
  | some d =>
   cases e2:c5 env as with
   | none=>rw [e1,e2] at e;cases e
   | some ds' =>
    rw [e1,e2] at e;cases e;have ih:=fS.mv R h2 e2;cases a with
    | dat d'=>cases e1;exact ⟨v,r,rfl,h1,ih⟩
    | bor i=>exact ⟨v,r,rfl,h1.vw R e1,ih⟩
theorem fS.FW:∀ {as:List AV} {vs:List V} {ds:List PyData},fS K F0 env σ H as vs->ke as=some ds->DmL K (FF F0 env σ) H ds vs
 | [],_,ds,h,e=>by cases e;exact h
 | .dat d :: as,_,ds,h,e=>by
  obtain ⟨v,r,rfl,h1,h2⟩:=h;unfold ke at e;cases e2:ke as with
  | none=>rw [e2] at e;cases e
  | some ds' =>
   rw [e2] at e;cases e;exact ⟨v,r,rfl,h1,fS.FW h2 e2⟩
 | .bor i :: as,_,ds,h,e=>by unfold ke at e;cases e
theorem d4.wF {d:PyData} {a c:Addr} (hc:H c=none) (h:d4 K F I H d a):d4 K F (fun b=>I b\/b=c) H d a:=by
 cases d with
 | list ds=>obtain ⟨xs,e,z,r⟩:=h;exact ⟨xs,e.fresh hc,z,r⟩
 | dict ds =>
  obtain ⟨ep,xs,n,e,z,r⟩:=h;exact ⟨ep,xs,fun q=>q.elim n fun q=>(by subst q;rw [hc] at e;cases e),e,z,r⟩
 | _=>exact absurd h id
theorem Rel.kF (R:Rel K F0 H₀ I env σ H) (s:ar H H') {pr:PR} {v:V} (h:vV K (FF F0 env σ) H H' pr v):dH K F0 H₀ I env σ H' pr.rv v:=by
 cases pr with
 | dat d=>exact h
 | frs d =>
  obtain ⟨a,e,hn,t⟩:=h;refine ⟨a,e,R.fresh hn s ?_,t,R.oi (.inl hn),fun z=>R.dB z hn,fun i d' e' q=>?_,fun i d' e'=>?_⟩
  ·obtain ⟨o,q,_⟩:=t.wr;rw [q];exact nofun
  ·obtain ⟨o,z,_⟩:=R.iaT ⟨i,⟨d',.inr e'⟩,q⟩;rw [hn] at z;cases z
  ·obtain ⟨b,q,t'⟩:=R.ro i d' e';exact ⟨b,q,((t'.fresh hn).wF hn).pr (Pr.of_same s) (fun _ z=>z) (fun _ z=>z) fun b o z _=>s _ _ z⟩
theorem sO (env:En) (i:Nat) (d:PyData):KpE env (fH env i d):=by
 unfold fH;cases e:env[i]? with
 | none=>exact KpE.refl _
 | some sl =>
  have hi:i < env.length:=(Js.mp e).1;cases sl with
  | un=>exact KpE.refl _
  | dat _=>exact KpE.refl _
  | ro _=>exact KpE.refl _
  | own d' =>
   refine ⟨J8,fun j s h=>?_⟩;by_cases z:i=j
   ·subst z;rw [e] at h;cases h;exact ⟨.own d,by rw [JK hi],.inl ⟨d,rfl⟩⟩
   ·exact ⟨s,by rw [Ju z];exact h,.refl s⟩
  | ino d' =>
   refine ⟨J8,fun j s h=>?_⟩;by_cases z:i=j
   ·subst z;rw [e] at h;cases h;exact ⟨.ino d,by rw [JK hi],⟨d,rfl⟩⟩
   ·exact ⟨s,by rw [Ju z];exact h,.refl s⟩
def SmK (env env':En):Prop:=env'.length=env.length/\∀ i:Nat,env'[i]?=env[i]?\/(∃ d d',env[i]?=some (.own d)/\env'[i]?=some (.own d'))\/∃ d d',env[i]?=some (.ino d)/\env'[i]?=some (.ino d')
theorem SmK.refl (env:En):SmK env env:=⟨rfl,fun _=>.inl rfl⟩
theorem SmK.trans {e1 e2 e3:En} (a:SmK e1 e2) (b:SmK e2 e3):SmK e1 e3:=⟨b.1.trans a.1,fun i=>by
 rcases b.2 i with h | ⟨d,d',h,h'⟩ | ⟨d,d',h,h'⟩
 ·rw [h];exact a.2 i
 ·rcases a.2 i with q | ⟨c,c',q,q'⟩ | ⟨c,c',q,q'⟩
  ·exact .inr (.inl ⟨d,d',by rw [<- q];exact h,h'⟩)
  ·exact .inr (.inl ⟨c,d',q,h'⟩)
  ·rw [h] at q';cases q'
 ·rcases a.2 i with q | ⟨c,c',q,q'⟩ | ⟨c,c',q,q'⟩
  ·exact .inr (.inr ⟨d,d',by rw [<- q];exact h,h'⟩)
  ·rw [h] at q';cases q'
  ·exact .inr (.inr ⟨c,d',q,h'⟩)⟩
theorem SmK.kp (k:SmK env env'):KpE env env':=⟨k.1,fun i s e=>by
 rcases k.2 i with h | ⟨d,d',h,h'⟩ | ⟨d,d',h,h'⟩
 ·exact ⟨s,by rw [h];exact e,.refl s⟩
 ·rw [e] at h;cases h;exact ⟨_,h',.inl ⟨d',rfl⟩⟩
 ·rw [e] at h;cases h;exact ⟨_,h',⟨d',rfl⟩⟩⟩
theorem SmK.symm (k:SmK env env'):SmK env' env:=⟨k.1.symm,fun i=>by
 rcases k.2 i with h | ⟨d,d',h,h'⟩ | ⟨d,d',h,h'⟩
 ·exact .inl h.symm
 ·exact .inr (.inl ⟨d',d,h',h⟩)
 ·exact .inr (.inr ⟨d',d,h',h⟩)⟩
theorem SmK.ff (k:SmK env env'):FF F0 env' σ=FF F0 env σ:=by
 funext b;exact propext ⟨fun h=>k.kp.ff h,fun h=>k.symm.kp.ff h⟩
theorem SmK.ia (k:SmK env env'):IA env' σ=IA env σ:=by
 funext b;exact propext ⟨fun h=>k.kp.ia h,fun h=>k.symm.kp.ia h⟩
theorem df (env:En) (i:Nat) (d:PyData):SmK env (fH env i d):=by
 unfold fH;cases e:env[i]? with
 | none=>exact SmK.refl _
 | some sl =>
  have hi:i < env.length:=(Js.mp e).1;cases sl with
  | un=>exact SmK.refl _
  | dat _=>exact SmK.refl _
  | ro _=>exact SmK.refl _
  | own d' =>
   refine ⟨J8,fun j=>?_⟩;by_cases z:i=j
   ·subst z;exact .inr (.inl ⟨d',d,e,by rw [JK hi]⟩)
   ·exact .inl (by rw [Ju z])
  | ino d' =>
   refine ⟨J8,fun j=>?_⟩;by_cases z:i=j
   ·subst z;exact .inr (.inr ⟨d',d,e,by rw [JK hi]⟩)
   ·exact .inl (by rw [Ju z])
theorem jx {env:En} {i:Nat} {d:PyData} (h:mu env i):aC (fH env i d) i=some d:=by
 unfold fH aC;obtain ⟨d',e | e⟩:=h
 ·have hi:i < env.length:=(Js.mp e).1;rw [e];simp only;rw [JK hi]
 ·have hi:i < env.length:=(Js.mp e).1;rw [e];simp only;rw [JK hi]
theorem jz {env:En} {i j:Nat} {d:PyData} (h:j≠i):(fH env i d)[j]?=env[j]?:=by
 unfold fH;split <;> first | rfl | rw [Ju (Ne.symm h)]
theorem nJ {env:En} {i:Nat} {d:PyData} (h:aC env i=some d):env[i]?=some (.own d)\/env[i]?=some (.ino d):=by
 unfold aC at h;split at h
 ·rename_i e;cases h;exact .inl e
 ·rename_i e;cases h;exact .inr e
 ·cases h
theorem Rel.chg (R:Rel K F0 H₀ I env σ H) (k:SmK env env') (hk:∀ b o,H b=some o->¬IA env σ b->H' b=some o) (ht:∀ i d a,aC env' i=some d->σ[i]?=some (some (.ref a))->Top K (FF F0 env σ) H' d a):Rel K F0 H₀ I env' σ H':=by
 have p:=R.oz hk;have eF:=k.ff (F0:=F0) (σ:=σ);have eI:=k.ia (σ:=σ);have mc:∀ {i:Nat} {d:PyData},env'[i]?=some (.own d)\/env'[i]?=some (.ino d)->aC env' i=some d:=fun {i d} h=>by
  unfold aC;rcases h with h | h <;> rw [h]
 refine ⟨k.1.trans R.len,fun i d e=>?_,fun i d e=>?_,fun i d e=>?_,fun i d e=>?_,fun i j a h1 h2 h3 h4=>R.sep i j a (k.kp.mu h1) (k.kp.mu h2) h3 h4,fun b h=>?_,fun b o h n=>?_⟩
 ·rcases k.2 i with q | ⟨c,c',q,q'⟩ | ⟨c,c',q,q'⟩
  ·rw [e] at q;obtain ⟨v,s,r⟩:=R.dat i d q.symm;rw [eF];exact ⟨v,s,r.pr p fun _ z=>z⟩
  ·rw [e] at q';cases q'
  ·rw [e] at q';cases q'
 ·have hm:=mc (.inl e);obtain ⟨d0,e0⟩:=k.kp.own e;obtain ⟨a,s,n,w,_⟩:=R.own i d0 e0;rw [eF];exact ⟨a,s,n,w,ht i d a hm s⟩
 ·have hm:=mc (.inr e);have:∃ d0,env[i]?=some (.ino d0):=by
   rcases k.2 i with q | ⟨c,c',q,q'⟩ | ⟨c,c',q,q'⟩
   ·exact ⟨d,by rw [<- q];exact e⟩
   ·rw [e] at q';cases q'
   ·exact ⟨c,q⟩
  obtain ⟨d0,e0⟩:=this;obtain ⟨a,s,n,w,_⟩:=R.ino i d0 e0;rw [eF];exact ⟨a,s,n,w,ht i d a hm s⟩
 ·have e0:env[i]?=some (.ro d):=by
   rcases k.2 i with q | ⟨c,c',q,q'⟩ | ⟨c,c',q,q'⟩
   ·rw [<- q];exact e
   ·rw [e] at q';cases q'
   ·rw [e] at q';cases q'
  obtain ⟨a,s,t⟩:=R.ro i d e0;rw [eF,eI];exact ⟨a,s,t.pr p (fun _ z=>z) (fun _ z=>z) hk⟩
 ·by_cases z:IA env σ b
  ·obtain ⟨i,m,s⟩:=z;have m':=k.symm.kp.mu m;obtain ⟨d,m'⟩:=m';obtain ⟨o,q,_⟩:=(ht i d b (mc m') s).wr;rw [q];exact nofun
  ·cases e:H b with
   | none=>exact absurd e (R.dom b h)
   | some o=>rw [hk b o e z];exact nofun
 ·refine hk b o (R.cL b o h n) fun z=>?_;rcases R.iaI z with q | q
  ·rw [h] at q;cases q
  ·exact n q
end
open PySem
section
variable {K:Fg} {F F' I I' F0:Addr->Prop} {H H' H₀:Hp} {env env':En} {σ σ':St} {ga:Nat->V} {gd:List PyData}
theorem get_set {α:Type} {l:List α} {i j:Nat} {x y:α} (h:(l.set i x)[j]?=some y):(i=j/\x=y)\/(i≠j/\l[j]?=some y):=by
 by_cases z:i=j
 ·subst z;by_cases hi:i < l.length
  ·rw [JK hi] at h;exact .inl ⟨rfl,Km h⟩
  ·rw [List.getElem?_eq_none (by rw [J8];omega)] at h;cases h
 ·rw [Ju z] at h;exact .inr ⟨z,h⟩
theorem Rel.sub (R:Rel K F0 H₀ I env σ H) (i:Nat) (x:Option V):(∀ b,FF F0 (env.set i .un) (σ.set i x) b->FF F0 env σ b)/\(∀ b,IA (env.set i .un) (σ.set i x) b->IA env σ b):=by
 constructor
 ·rintro b (h | ⟨j,d,e,s⟩)
  ·exact .inl h
  ·rcases get_set e with ⟨_,z⟩ | ⟨n,e⟩
   ·cases z
   ·rw [Ju n] at s;exact .inr ⟨j,d,e,s⟩
 ·rintro b ⟨j,⟨d,e⟩,s⟩;have:∃ d,(env[j]?=some (.own d)\/env[j]?=some (.ino d))/\i≠j:=by
   rcases e with e | e
   ·rcases get_set e with ⟨_,z⟩ | ⟨n,e⟩
    ·cases z
    ·exact ⟨d,.inl e,n⟩
   ·rcases get_set e with ⟨_,z⟩ | ⟨n,e⟩
    ·cases z
    ·exact ⟨d,.inr e,n⟩
  obtain ⟨d,e,n⟩:=this;rw [Ju n] at s;exact ⟨j,⟨d,e⟩,s⟩
theorem Rel.forget (R:Rel K F0 H₀ I env σ H) (i:Nat) (x:Option V):Rel K F0 H₀ I (env.set i .un) (σ.set i x) H:=by
 obtain ⟨hf,hi⟩:=R.sub i x;have mm:∀ j,mu (env.set i .un) j->mu env j/\i≠j:=fun j h=>by
  obtain ⟨d,e | e⟩:=h
  ·rcases get_set e with ⟨_,z⟩ | ⟨n,e⟩
   ·cases z
   ·exact ⟨⟨d,.inl e⟩,n⟩
  ·rcases get_set e with ⟨_,z⟩ | ⟨n,e⟩
   ·cases z
   ·exact ⟨⟨d,.inr e⟩,n⟩
 refine ⟨by rw [J8,J8];exact R.len,fun j d e=>?_,fun j d e=>?_,fun j d e=>?_,fun j d e=>?_,fun j k a h1 h2 h3 h4=>?_,R.dom,R.cL⟩
 ·rcases get_set e with ⟨_,z⟩ | ⟨n,e⟩
  ·cases z
  obtain ⟨v,s,r⟩:=R.dat j d e;exact ⟨v,by rw [Ju n];exact s,r.mono hf⟩
 ·rcases get_set e with ⟨_,z⟩ | ⟨n,e⟩
  ·cases z
  obtain ⟨a,s,q,w,t⟩:=R.own j d e;exact ⟨a,by rw [Ju n];exact s,q,w,t.pr Pr.refl hf fun _ z=>z⟩
 ·rcases get_set e with ⟨_,z⟩ | ⟨n,e⟩
  ·cases z
  obtain ⟨a,s,q,w,t⟩:=R.ino j d e;exact ⟨a,by rw [Ju n];exact s,q,w,t.pr Pr.refl hf fun _ z=>z⟩
 ·rcases get_set e with ⟨_,z⟩ | ⟨n,e⟩
  ·cases z
  obtain ⟨a,s,t⟩:=R.ro j d e;exact ⟨a,by rw [Ju n];exact s,t.pr Pr.refl hf hi fun _ _ z _=>z⟩
 ·obtain ⟨m1,n1⟩:=mm j h1;obtain ⟨m2,n2⟩:=mm k h2;rw [Ju n1] at h3;rw [Ju n2] at h4;exact R.sep j k a m1 m2 h3 h4
theorem iY {i:Nat} {s:Sl} {x:Option V} (hu:env[i]?=some .un) (hs:∀ d,s≠.own d):FF F0 (env.set i s) (σ.set i x)=FF F0 env σ:=by
 funext b;apply propext;constructor
 ·rintro (h | ⟨j,d,e,q⟩)
  ·exact .inl h
  ·rcases get_set e with ⟨_,z⟩ | ⟨n,e⟩
   ·exact absurd z (hs d)
   ·rw [Ju n] at q;exact .inr ⟨j,d,e,q⟩
 ·rintro (h | ⟨j,d,e,q⟩)
  ·exact .inl h
  ·have n:i≠j:=fun z=>by subst z;rw [hu] at e;cases e
   exact .inr ⟨j,d,by rw [Ju n];exact e,by rw [Ju n];exact q⟩
theorem rC {i:Nat} {s:Sl} {x:Option V} (hu:env[i]?=some .un) (hs:∀ d,s≠.own d/\s≠.ino d):IA (env.set i s) (σ.set i x)=IA env σ:=by
 funext b;apply propext;constructor
 ·rintro ⟨j,⟨d,e | e⟩,q⟩
  ·rcases get_set e with ⟨_,z⟩ | ⟨n,e⟩
   ·exact absurd z (hs d).1
   ·rw [Ju n] at q;exact ⟨j,⟨d,.inl e⟩,q⟩
  ·rcases get_set e with ⟨_,z⟩ | ⟨n,e⟩
   ·exact absurd z (hs d).2
   ·rw [Ju n] at q;exact ⟨j,⟨d,.inr e⟩,q⟩
 ·rintro ⟨j,⟨d,e⟩,q⟩;have n:i≠j:=fun z=>by subst z;rw [hu] at e;rcases e with e | e <;> cases e
  refine ⟨j,⟨d,?_⟩,by rw [Ju n];exact q⟩;rw [Ju n];exact e
theorem Rel.putD (R:Rel K F0 H₀ I env σ H) {i:Nat} {d:PyData} {v:V} (hu:env[i]?=some .un) (h:Dm K (FF F0 env σ) H d v):Rel K F0 H₀ I (env.set i (.dat d)) (σ.set i (some v)) H:=by
 have hi:i < env.length:=(Js.mp hu).1;have eF:FF F0 (env.set i (.dat d)) (σ.set i (some v))=FF F0 env σ:=iY hu (fun _=>nofun);have eI:IA (env.set i (.dat d)) (σ.set i (some v))=IA env σ:=rC hu (fun _=>⟨nofun,nofun⟩);have mm:∀ j,mu (env.set i (.dat d)) j->mu env j/\i≠j:=fun j h=>by
  obtain ⟨c,e | e⟩:=h
  ·rcases get_set e with ⟨_,z⟩ | ⟨n,e⟩
   ·cases z
   ·exact ⟨⟨c,.inl e⟩,n⟩
  ·rcases get_set e with ⟨_,z⟩ | ⟨n,e⟩
   ·cases z
   ·exact ⟨⟨c,.inr e⟩,n⟩
 refine ⟨by rw [J8,J8];exact R.len,fun j c e=>?_,fun j c e=>?_,fun j c e=>?_,fun j c e=>?_,fun j k a h1 h2 h3 h4=>?_,R.dom,R.cL⟩
 ·rw [eF];rcases get_set e with ⟨z,y⟩ | ⟨n,e⟩
  ·subst z;cases y;exact ⟨v,JK (by rw [<- R.len];exact hi),h⟩
  obtain ⟨w,s,r⟩:=R.dat j c e;exact ⟨w,by rw [Ju n];exact s,r⟩
 ·rw [eF];rcases get_set e with ⟨_,z⟩ | ⟨n,e⟩
  ·cases z
  obtain ⟨a,s,q,w,t⟩:=R.own j c e;exact ⟨a,by rw [Ju n];exact s,q,w,t⟩
 ·rw [eF];rcases get_set e with ⟨_,z⟩ | ⟨n,e⟩
  ·cases z
  obtain ⟨a,s,q,w,t⟩:=R.ino j c e;exact ⟨a,by rw [Ju n];exact s,q,w,t⟩
 ·rw [eF,eI];rcases get_set e with ⟨_,z⟩ | ⟨n,e⟩
  ·cases z
  obtain ⟨a,s,t⟩:=R.ro j c e;exact ⟨a,by rw [Ju n];exact s,t⟩
 ·obtain ⟨m1,n1⟩:=mm j h1;obtain ⟨m2,n2⟩:=mm k h2;rw [Ju n1] at h3;rw [Ju n2] at h4;exact R.sep j k a m1 m2 h3 h4
theorem Rel.Hu {i:Nat} {d:PyData} {a:Addr} (hu:env[i]?=some .un) (h:dH K F0 H₀ I env σ H (.frs d) (.ref a)):Rel K F0 H₀ I (env.set i (.own d)) (σ.set i (some (.ref a))) H:=by
 obtain ⟨a',ea,R,t,w,nF,hino,hro⟩:=h;cases ea;have hi:i < env.length:=(Js.mp hu).1;have his:i < σ.length:=by rw [<- R.len];exact hi
 have eF:FF F0 (env.set i (.own d)) (σ.set i (some (.ref a)))=fun b=>FF F0 env σ b\/b=a:=by
  funext b;apply propext;constructor
  ·rintro (h | ⟨j,c,e,q⟩)
   ·exact .inl (.inl h)
   ·rcases get_set e with ⟨z,y⟩ | ⟨n,e⟩
    ·subst z;rw [JK his] at q;cases q;exact .inr rfl
    ·rw [Ju n] at q;exact .inl (.inr ⟨j,c,e,q⟩)
  ·rintro ((h | ⟨j,c,e,q⟩) | rfl)
   ·exact .inl h
   ·have n:i≠j:=fun z=>by subst z;rw [hu] at e;cases e
    exact .inr ⟨j,c,by rw [Ju n];exact e,by rw [Ju n];exact q⟩
   ·exact .inr ⟨i,d,JK hi,JK his⟩
 have eF2:FF (fun b=>F0 b\/b=a) env σ=fun b=>FF F0 env σ b\/b=a:=d6;have mm:∀ j,mu (env.set i (.own d)) j->i=j\/(mu env j/\i≠j):=fun j h=>by
  obtain ⟨c,e | e⟩:=h
  ·rcases get_set e with ⟨z,_⟩ | ⟨n,e⟩
   ·exact .inl z
   ·exact .inr ⟨⟨c,.inl e⟩,n⟩
  ·rcases get_set e with ⟨z,_⟩ | ⟨n,e⟩
   ·exact .inl z
   ·exact .inr ⟨⟨c,.inr e⟩,n⟩
 have eI:∀ b,IA (env.set i (.own d)) (σ.set i (some (.ref a))) b->IA env σ b\/b=a:=by
  rintro b ⟨j,m,q⟩;rcases mm j m with z | ⟨m',n⟩
  ·subst z;rw [JK his] at q;cases q;exact .inr rfl
  ·rw [Ju n] at q;exact .inl ⟨j,m',q⟩
 have na:∀ j,mu env j->σ[j]?≠some (some (.ref a)):=fun j m q=>by
  obtain ⟨c,e | e⟩:=m
  ·exact nF (.inr ⟨j,c,e,q⟩)
  ·exact hino j c e q
 refine ⟨by rw [J8,J8];exact R.len,fun j c e=>?_,fun j c e=>?_,fun j c e=>?_,fun j c e=>?_,fun j k b h1 h2 h3 h4=>?_,fun b h=>R.dom b (.inl h),R.cL⟩
 ·rw [eF];rcases get_set e with ⟨_,z⟩ | ⟨n,e⟩
  ·cases z
  obtain ⟨x,s,r⟩:=R.dat j c e;rw [eF2] at r;exact ⟨x,by rw [Ju n];exact s,r⟩
 ·rw [eF];rcases get_set e with ⟨z,y⟩ | ⟨n,e⟩
  ·subst z;cases y;exact ⟨a,JK his,fun z=>nF (.inl z),w,t⟩
  obtain ⟨b,s,q,w',t'⟩:=R.own j c e;rw [eF2] at t';exact ⟨b,by rw [Ju n];exact s,fun z=>q (.inl z),w',t'⟩
 ·rw [eF];rcases get_set e with ⟨_,z⟩ | ⟨n,e⟩
  ·cases z
  obtain ⟨b,s,q,w',t'⟩:=R.ino j c e;rw [eF2] at t';refine ⟨b,by rw [Ju n];exact s,?_,w',t'⟩;rcases q with q | q
  ·exact q
  ·subst q;exact absurd s (hino j c e)
 ·rw [eF];rcases get_set e with ⟨_,z⟩ | ⟨n,e⟩
  ·cases z
  obtain ⟨b,s,t'⟩:=hro j c e;exact ⟨b,by rw [Ju n];exact s,t'.pr Pr.refl (fun _ z=>z) eI fun _ _ z _=>z⟩
 ·rcases mm j h1 with z1 | ⟨m1,n1⟩
  ·rcases mm k h2 with z2 | ⟨m2,n2⟩
   ·rw [<- z1,<-z2]
   ·rw [<- z1,JK his] at h3;cases h3;rw [Ju n2] at h4;exact absurd h4 (na k m2)
  ·rw [Ju n1] at h3;rcases mm k h2 with z2 | ⟨m2,n2⟩
   ·rw [<- z2,JK his] at h4;cases h4;exact absurd h3 (na j m1)
   ·rw [Ju n2] at h4;exact R.sep j k b m1 m2 h3 h4
theorem Rel.take (R:Rel K F0 H₀ I env σ H) {i:Nat} {d:PyData} (e:env[i]?=some (.own d)):∃ a,σ[i]?=some (some (.ref a))/\dH K F0 H₀ I (env.set i .un) σ H (.frs d) (.ref a):=by
 obtain ⟨a,s,nF0,w,t⟩:=R.own i d e;have hi:i < env.length:=(Js.mp e).1;have mm:∀ j,mu (env.set i .un) j->mu env j/\i≠j:=fun j h=>by
  obtain ⟨c,e | e⟩:=h
  ·rcases get_set e with ⟨_,z⟩ | ⟨n,e⟩
   ·cases z
   ·exact ⟨⟨c,.inl e⟩,n⟩
  ·rcases get_set e with ⟨_,z⟩ | ⟨n,e⟩
   ·cases z
   ·exact ⟨⟨c,.inr e⟩,n⟩
 have eF:FF F0 env σ=fun b=>FF F0 (env.set i .un) σ b\/b=a:=by
  funext b;apply propext;constructor
  ·rintro (h | ⟨j,c,e',q⟩)
   ·exact .inl (.inl h)
   ·by_cases n:i=j
    ·subst n;rw [s] at q;cases q;exact .inr rfl
    ·exact .inl (.inr ⟨j,c,by rw [Ju n];exact e',q⟩)
  ·rintro ((h | ⟨j,c,e',q⟩) | rfl)
   ·exact .inl h
   ·rcases get_set e' with ⟨_,z⟩ | ⟨n,e'⟩
    ·cases z
    ·exact .inr ⟨j,c,e',q⟩
   ·exact .inr ⟨i,d,e,s⟩
 have eF2:FF (fun b=>F0 b\/b=a) (env.set i .un) σ=FF F0 env σ:=by rw [d6];exact eF.symm
 have na:∀ j,mu (env.set i .un) j->σ[j]?≠some (some (.ref a)):=fun j m q=>by
  obtain ⟨m',n⟩:=mm j m;exact n (R.sep i j a ⟨d,.inl e⟩ m' s q)
 have nF:¬FF F0 (env.set i .un) σ a:=by
  rintro (h | ⟨j,c,e',q⟩)
  ·exact nF0 h
  ·exact na j ⟨c,.inl e'⟩ q
 have ia:∀ b,IA (env.set i .un) σ b->IA env σ b:=fun b ⟨j,m,q⟩=>⟨j,(mm j m).1,q⟩;have ia2:∀ b,(IA (env.set i .un) σ b\/b=a)->IA env σ b:=fun b h=>h.elim (ia b) fun z=>z▸⟨i,⟨d,.inl e⟩,s⟩;have R':Rel K (fun b=>F0 b\/b=a) H₀ I (env.set i .un) σ H:=by
  refine ⟨by rw [J8];exact R.len,fun j c e'=>?_,fun j c e'=>?_,fun j c e'=>?_,fun j c e'=>?_,fun j k b h1 h2 h3 h4=>R.sep j k b (mm j h1).1 (mm k h2).1 h3 h4,fun b h=>?_,R.cL⟩
  ·rw [eF2];rcases get_set e' with ⟨_,z⟩ | ⟨n,e'⟩
   ·cases z
   exact R.dat j c e'
  ·rw [eF2];have m:=e';rcases get_set e' with ⟨_,z⟩ | ⟨n,e'⟩
   ·cases z
   obtain ⟨b,s',q,w',t'⟩:=R.own j c e';exact ⟨b,s',fun z=>z.elim q fun z=>na j ⟨c,.inl m⟩ (z▸s'),w',t'⟩
  ·rw [eF2];rcases get_set e' with ⟨_,z⟩ | ⟨n,e'⟩
   ·cases z
   obtain ⟨b,s',q,w',t'⟩:=R.ino j c e';exact ⟨b,s',.inl q,w',t'⟩
  ·rw [eF2];rcases get_set e' with ⟨_,z⟩ | ⟨n,e'⟩
   ·cases z
   obtain ⟨b,s',t'⟩:=R.ro j c e';exact ⟨b,s',t'.pr Pr.refl (fun _ z=>z) ia fun _ _ z _=>z⟩
  ·rcases h with h | h
   ·exact R.dom b h
   ·obtain ⟨o,q,_⟩:=t.wr;rw [h,q];exact nofun
 refine ⟨a,s,a,rfl,R',by rw [eF] at t;exact t,w,nF,fun j c e'=>na j ⟨c,.inr e'⟩,fun j c e'=>?_⟩;rcases get_set e' with ⟨_,z⟩ | ⟨n,e'⟩
 ·cases z
 obtain ⟨b,s',t'⟩:=R.ro j c e';rw [eF] at t';exact ⟨b,s',t'.pr Pr.refl (fun _ z=>z) ia2 fun _ _ z _=>z⟩
theorem dH.rel {d:PyData} {v:V} (h:dH K F0 H₀ I env σ H (.frs d) v):Rel K F0 H₀ I env σ H:=by
 obtain ⟨a,_,R,_,_,_,hi,_⟩:=h;exact R.less hi
theorem set_same {α:Type} {l:List α} {i:Nat} {x:α} (h:l[i]?=some x):l.set i x=l:=by
 have hi:i < l.length:=(Js.mp h).1;apply List.ext_getElem?;intro j;by_cases z:i=j
 ·subst z;rw [JK hi,h]
 ·rw [Ju z]
theorem Rel.mov (R:Rel K F0 H₀ I env σ H) {i:Nat} {d:PyData} (e:env[i]?=some (.own d)):∃ a,σ[i]?=some (some (.ref a))/\Rel K F0 H₀ I (env.set i (.dat d)) σ H/\Dm K (FF F0 (env.set i (.dat d)) σ) H d (.ref a):=by
 have hi:i < env.length:=(Js.mp e).1;obtain ⟨a,s,h⟩:=R.take e;have R1:=h.rel;have hu:(env.set i .un)[i]?=some .un:=JK hi;have hd:Dm K (FF F0 (env.set i .un) σ) H d (.ref a):=dH.av h;have R2:=R1.putD hu hd;rw [KR,set_same s] at R2;refine ⟨a,s,R2,?_⟩;have eF:FF F0 (env.set i (.dat d)) σ=FF F0 (env.set i .un) σ:=by
  have:=iY (F0:=F0) (σ:=σ) (s:=.dat d) (x:=some (.ref a)) hu (fun _=>nofun);rw [KR,set_same s] at this;exact this
 rw [eF];exact hd
theorem wj {i:Nat} {s s':Sl} (e:env[i]?=some s) (v:Evo s s'):KpE env (env.set i s'):=by
 have hi:i < env.length:=(Js.mp e).1;refine ⟨J8,fun j t h=>?_⟩;by_cases z:i=j
 ·subst z;rw [e] at h;cases h;exact ⟨s',JK hi,v⟩
 ·exact ⟨t,by rw [Ju z];exact h,.refl t⟩
end
open PySem
theorem iK (x y:Str):(x++y).cps=x.cps++y.cps:=rfl
theorem kH {x y:Str} (h:PyData.strOk x=true) (q:PyData.strOk y=true):PyData.strOk (x++y)=true:=by
 unfold PyData.strOk at h q ⊢;rw [iK,Array.all_append,h,q];rfl
def SE (K:Fg) (ga:Nat->V) (gd:List PyData) (e:XE):Prop:=∀ (env:En) (rv:RV) (env':En),dE gd e env=some (rv,env')->∀ (F0:Addr->Prop) (H₀:Hp) (I:Addr->Prop) (σ:St) (H:Hp) (Q:VK),Rel K F0 H₀ I env σ H ->
 (∀ v H',Rel K F0 H₀ I env' σ H'->KpE env env'->dH K F0 H₀ I env' σ H' rv v->Q v H')->rE K ga e σ H Q
def SA (K:Fg) (ga:Nat->V) (gd:List PyData) (e:XA):Prop:=∀ (env:En) (rv:List AV) (env':En),dA gd e env=some (rv,env')->∀ (F0:Addr->Prop) (H₀:Hp) (I:Addr->Prop) (σ:St) (H:Hp) (Q:List V->Hp->Prop),Rel K F0 H₀ I env σ H ->
 (∀ v H',Rel K F0 H₀ I env' σ H'->KpE env env'->fS K F0 env' σ H' rv v->Q v H')->rA K ga e σ H Q
def SF (K:Fg) (ga:Nat->V) (gd:List PyData) (e:XA):Prop:=∀ (out:Str) (env:En) (x:Str) (env':En),dF gd e out env=some (x,env')->∀ (F0:Addr->Prop) (H₀:Hp) (I:Addr->Prop) (σ:St) (H:Hp) (Q:VK),Rel K F0 H₀ I env σ H ->
 PyData.strOk out=true->(∀ H',Rel K F0 H₀ I env' σ H'->KpE env env'->x.length<=sizeLine->PyData.strOk x=true->Q (.str x) H')->tFs (rF K ga e) out σ H Q
def BK (K:Fg) (F:Addr->Prop) (H:Hp):List (Key×PyData)->List (Key×V)->Prop
 | [],vs=>vs=[]
 | (k,d) :: ds,vs=>∃ v r,vs=(k,v) :: r/\Dm K F H (kD k) (kV k)/\Dm K F H d v/\BK K F H ds r
def SPs (K:Fg) (ga:Nat->V) (gd:List PyData) (e:XP):Prop:=∀ (env:En) (kvs:List (Key×PyData)) (env':En),dP gd e env=some (kvs,env')->∀ (F0:Addr->Prop) (H₀:Hp) (I:Addr->Prop) (σ:St) (H:Hp) (Q:List (V×V)->Hp->Prop),Rel K F0 H₀ I env σ H ->
 (∀ vs H',Rel K F0 H₀ I env' σ H'->KpE env env'->BK K (FF F0 env' σ) H' kvs vs->Q (vs.map fun kv=>(kV kv.1,kv.2)) H')->nX (rP K ga e) σ H Q
def ST (K:Fg) (ga:Nat->V) (gd:List PyData) (e:XT):Prop:=∀ (env:En) (b:Bool) (env':En),dT gd e env=some (b,env')->∀ (F0:Addr->Prop) (H₀:Hp) (I:Addr->Prop) (σ:St) (H:Hp) (Q:Bool->Hp->Prop),Rel K F0 H₀ I env σ H ->
 (∀ H',Rel K F0 H₀ I env' σ H'->KpE env env'->Q b H')->rT K ga e σ H Q
def ItY (K:Fg) (F:Addr->Prop) (H H' H'':Hp) (d:PyData) (x:V):Prop:=(H''=H'/\Dm K F H d x)\/∃ p u v d1 d2,d=.tuple [d1,d2]/\x=.ref p/\H' p=none/\H''=upd H' p (.tup [u,v])/\Dm K F H d1 u/\Dm K F H d2 v
theorem ItY.dm {K:Fg} {F F2:Addr->Prop} {H H' H'':Hp} {d:PyData} {x:V} (h:ItY K F H H' H'' d x) (T:∀ d v,Dm K F H d v->Dm K F2 H' d v):ar H' H''/\Dm K F2 H'' d x:=by
 rcases h with ⟨rfl,h⟩ | ⟨p,u,v,d1,d2,rfl,rfl,hp,rfl,h1,h2⟩
 ·exact ⟨fun _ _ e=>e,T _ _ h⟩
 ·have sm:ar H' (upd H' p (.tup [u,v])):=fun b o e=>by rw [ai (fun z=>by rw [z,hp] at e;cases e)];exact e
  refine ⟨sm,p,[u,v],rfl,SqT.of af,Nat.le_of_ble_eq_true rfl,u,_,rfl,?_,v,_,rfl,?_,rfl⟩
  ·exact (T _ _ h1).pr (fun b o e _=>sm b o e) fun _ z=>z
  ·exact (T _ _ h2).pr (fun b o e _=>sm b o e) fun _ z=>z
def uN (K:Fg) (F I:Addr->Prop) (H:Hp) (J:It) (ds:List PyData):Prop:=ds.length<=sizeLine/\∀ H',(∀ b o,H b=some o->¬I b->H' b=some o)->∀ k,(k < ds.length->J.go k H'/\∀ x H'',J.yld k H' x H''->∃ d,ds[k]?=some d/\ItY K F H H' H'' d x)/\(ds.length<=k->J.stop k H')
theorem iz {K:Fg} {F I:Addr->Prop} {H:Hp} {J:It} {ds:List PyData} {vs:List V} (hd:DmL K F H ds vs) (hl:vs.length<=sizeLine) (h:∀ H',(∀ b o,H b=some o->¬I b->H' b=some o)->∀ k,(k < vs.length->J.go k H'/\∀ x H'',J.yld k H' x H''->H''=H'/\vs[k]?=some x)/\(vs.length<=k->J.stop k H')):uN K F I H J ds:=by
 have e:=hd.len;refine ⟨by omega,fun H' k j=>⟨fun hj=>?_,fun hj=>((h H' k j).2 (by omega))⟩⟩;obtain ⟨g,y⟩:=(h H' k j).1 (by omega);refine ⟨g,fun x H'' hx=>?_⟩;obtain ⟨e0,hx2⟩:=y x H'' hx;obtain ⟨d,h1,h2⟩:=hd.get' hx2;exact ⟨d,h1,.inl ⟨e0,h2⟩⟩
def SI (K:Fg) (ga:Nat->V) (gd:List PyData) (e:XI):Prop:=∀ (env:En) (ds:List PyData) (lock:Option Nat) (env':En),dI gd e env=some (ds,lock,env')->∀ (F0:Addr->Prop) (H₀:Hp) (I:Addr->Prop) (σ:St) (H:Hp) (R:It->Hp->Prop),Rel K F0 H₀ I env σ H ->
 (∀ J H',Rel K F0 H₀ I env' σ H'->KpE env env'->(∀ i,lock=some i->∃ d,cont env' i=some d)->uN K (FF F0 env' σ) (fun b=>IA env' σ b/\∀ i,lock=some i->mu env' i->σ[i]?≠some (some (.ref b))) H' J ds->R J H')->rI_ K ga e σ H R
section
variable {K:Fg} {F F' I I' F0:Addr->Prop} {H H' H₀:Hp} {env env':En} {σ σ':St} {ga:Nat->V} {gd:List PyData}
theorem D4 (i:Nat):SE K ga gd (.var i):=by
 intro env rv env' h F0 H₀ I σ H Q R q;simp only [dE] at h;split at h
 ·rename_i d e;cases h;obtain ⟨v,s,r⟩:=R.dat i d e;exact ⟨v,s,q v H R (KpE.refl _) r⟩
 ·rename_i d e;cases h;obtain ⟨a,s,_⟩:=R.own i d e;exact ⟨_,s,q _ H R (KpE.refl _) s⟩
 ·rename_i d e;cases h;obtain ⟨a,s,_⟩:=R.ino i d e;exact ⟨_,s,q _ H R (KpE.refl _) s⟩
 ·rename_i d e;cases h;obtain ⟨a,s,_⟩:=R.ro i d e;exact ⟨_,s,q _ H R (KpE.refl _) s⟩
 ·cases h
theorem GC (i:Nat):SE K ga gd (.mov i):=by
 intro env rv env' h F0 H₀ I σ H Q R q;simp only [dE] at h;split at h
 ·rename_i d e;cases h;obtain ⟨a,s,R',r⟩:=R.mov e;exact ⟨_,s,q _ H R' (wj e (.inr (.inl ⟨d,rfl⟩))) r⟩
 ·cases h
theorem Gz (i:Nat):SE K ga gd (.tke i):=by
 intro env rv env' h F0 H₀ I σ H Q R q;simp only [dE] at h;split at h
 ·rename_i d e;cases h;obtain ⟨a,s,r⟩:=R.take e;exact ⟨_,s,q _ H r.rel (wj e (.inr (.inr rfl))) r⟩
 ·cases h
theorem Er (c:Cst):SE K ga gd (.cst c):=by
 intro env rv env' h F0 H₀ I σ H Q R q;simp only [dE] at h;cases h;exact q _ H R (KpE.refl _) (c.ok _ _ _)
theorem Gp (hg:∀ g d,gd[g]?=some d->∀ F H,Dm K F H d (ga g)) (g:Nat):SE K ga gd (.glb g):=by
 intro env rv env' h F0 H₀ I σ H Q R q;simp only [dE] at h;split at h
 ·rename_i d e;cases h;exact q _ H R (KpE.refl _) (hg g d e _ _)
 ·cases h
theorem FG {p:Prm} {as:XA} (ih:SA K ga gd as):SE K ga gd (.prm p as):=by
 intro env rv env' h F0 H₀ I σ H Q R q;simp only [dE] at h;split at h
 ·rename_i avs e1 h1;split at h
  ·rename_i ds h2;split at h
   ·rename_i pr h3;cases h;refine ih _ _ _ h1 F0 H₀ I σ H _ R fun vs H1 R1 k1 a1=>?_;refine p.ok K _ H1 ds vs pr Q h3 (a1.vw R1 h2) (fun b z=>R1.dB z) fun v H2 s2 hp=>?_;exact q v H2 (R1.same s2) k1 (R1.kF s2 hp)
   ·cases h
  ·cases h
 ·cases h
theorem Fe {m:Mtd} {o:XE} {as:XA} (io:SE K ga gd o) (ih:SA K ga gd as):SE K ga gd (.met m o as):=by
 intro env rv env' h F0 H₀ I σ H Q R q;simp only [dE] at h;split at h
 ·rename_i rv0 e1 h1;split at h
  ·rename_i d0 h2;split at h
   ·rename_i hty;split at h
    ·rename_i avs e2 h3;split at h
     ·rename_i d ds h4 h5;split at h
      ·rename_i pr h6;cases h;refine io _ _ _ h1 F0 H₀ I σ H _ R fun v H1 R1 k1 a1=>?_;refine ⟨m.AR K _ H1 d0 v hty (a1.av.vw R1 h2),?_⟩;refine ih _ _ _ h3 F0 _ _ σ H1 _ R1.rebase fun vs H2 S2 k2 a2=>?_;have R2:=R1.aW S2;refine m.ok K _ H2 d v ds vs pr Q h6 ((a1.av.keep R1 S2 k2).vw R2 h4) (a2.vw R2 h5) (fun b z=>R2.dB z) fun v H3 s3 hp=>?_;exact q v H3 (R2.same s3) (k1.trans k2) (R2.kF s3 hp)
      ·cases h
     ·cases h
    ·cases h
   ·cases h
  ·cases h
 ·cases h
theorem Rel.Hy (R:Rel K F0 H₀ I env σ H) {i:Nat} {d d':PyData} {a:Addr} (hm:aC env i=some d) (s:σ[i]?=some (some (.ref a))) (hk:∀ b o,b≠a->H b=some o->H' b=some o) (ht:Top K (FF F0 env σ) H' d' a):Rel K F0 H₀ I (fH env i d') σ H':=by
 obtain ⟨m,a',s',_,_⟩:=R.cH hm;rw [s] at s';cases s';have hia:IA env σ a:=⟨i,m,s⟩;refine R.chg (df env i d') (fun b o e n=>hk b o (fun z=>n (z▸hia)) e) fun j c b hc hs=>?_;by_cases z:j=i
 ·subst z;rw [jx m] at hc;cases hc;rw [s] at hs;cases hs;exact ht
 ·have hc':aC env j=some c:=by
   unfold aC at hc ⊢
   rwa [jz z] at hc
  obtain ⟨m2,b',s2,_,t2⟩:=R.cH hc';rw [hs] at s2;cases s2;have nb:b≠a:=fun y=>z (R.sep j i a m2 m (y▸hs) s);refine t2.pr (R.oz fun b' o e n=>hk b' o (fun z=>n (z▸hia)) e) (fun _ z=>z) fun o e=>hk b o nb e
theorem EI {m:Mtr} {i:Nat} {as:XA} (ih:SA K ga gd as):SE K ga gd (.mtr m i as):=by
 intro env rv env' h F0 H₀ I σ H Q R q;simp only [dE] at h;split at h
 ·rename_i d0 h0;split at h
  ·rename_i hty;split at h
   ·rename_i avs e1 h1;split at h
    ·rename_i d ds h2 h3;split at h
     ·rename_i d' pr h4;cases h;obtain ⟨_,a,s,f,t⟩:=R.cH h0;refine ⟨.ref a,s,m.AR K _ H d0 a hty t,?_⟩;refine ih _ _ _ h1 F0 H₀ I σ H _ R fun vs H1 R1 k1 a1=>?_;obtain ⟨m1,a',s',f1,t1⟩:=R1.cH h2;rw [s] at s';cases s';refine m.ok K _ H1 d a ds vs d' pr Q h4 f1 t1 (a1.mv R1 h3) fun v H2 hk ht hp=>?_;refine q v H2 (R1.Hy h2 s hk ht) (k1.trans (sO _ _ _)) ?_;show Dm K (FF F0 (fH e1 i d') σ) H2 pr v;rw [(df e1 i d').ff (F0:=F0) (σ:=σ)];exact hp
     ·cases h
    ·cases h
   ·cases h
  ·cases h
 ·cases h
noncomputable def adr (σ:St) (i:Nat):Addr:=match σ[i]? with | some (some (.ref a))=>a | _=>0
theorem fD {i:Nat} {a:Addr} (h:σ[i]?=some (some (.ref a))):adr σ i=a:=by unfold adr;rw [h]
theorem iZ {ms:List PM} {as:List AV} {ds:List PyData} {m:PM} {a:AV} (h:iO env (m :: ms) (a :: as)=some ds):∃ d r,ds=d :: r/\GX env m a=some d/\iO env ms as=some r:=by
 unfold iO at h;split at h
 ·rename_i d r e1 e2;cases h;exact ⟨d,r,rfl,e1,e2⟩
 ·cases h
theorem d4.bor {G I:Addr->Prop} {d:PyData} {a:Addr} (h:d4 K G I H d a):zA K G I H d (.ref a):=by cases d <;> first | exact ⟨a,rfl,h⟩ | exact absurd h id
theorem DH (R:Rel K F0 H₀ I env σ H) (all:List Nat) (hall:∀ i∈all,mu env i):∀ {ms:List PM} {as:List AV} {ds:List PyData} {vs:List V},iO env ms as=some ds->fS K F0 env σ H as vs->(cg ms as).Nodup->(∀ i∈tY ms as,i ∉ all)->(∀ i∈cg ms as,i∈all) ->
  bw K (FF F0 env σ) (·∈all.map (adr σ)) H ms ds vs ((cg ms as).map (adr σ)):=by
 have iAll:∀ b,b∈all.map (adr σ)->IA env σ b:=fun b hb=>by
  obtain ⟨i,hi,e⟩:=Kh.mp hb;have m:=hall i hi;obtain ⟨d,m'⟩:=m;have:∃ a,σ[i]?=some (some (.ref a)):=by
   rcases m' with z | z
   ·obtain ⟨a,s,_⟩:=R.own i d z;exact ⟨a,s⟩
   ·obtain ⟨a,s,_⟩:=R.ino i d z;exact ⟨a,s⟩
  obtain ⟨a,s⟩:=this;rw [fD s] at e;subst e;exact ⟨i,hall i hi,s⟩
 intro ms;induction ms with
 | nil =>
  intro as ds vs h q _ _ _;cases as with
  | nil=>cases h;rw [show vs=[] from q];rfl
  | cons a as=>cases h
 | cons m ms ih =>
  intro as ds vs h q nd hb hi;cases as with
  | nil=>cases h
  | cons a as =>
   obtain ⟨d,r,rfl,h1,h2⟩:=iZ h;obtain ⟨v,vr,rfl,q1,q2⟩:=q;cases m with
   | dat =>
    cases a with
    | bor i=>cases h1
    | dat d' =>
     cases h1;exact ⟨q1,ih h2 q2 (by simpa [cg] using nd) (by simpa [tY] using hb) (by simpa [cg] using hi)⟩
   | bor =>
    cases a with
    | dat d' =>
     by_cases ct:∃ ts,d'=.tuple ts
     ·obtain ⟨ts,rfl⟩:=ct;cases h1;exact ⟨q1,ih h2 q2 (by simpa [cg] using nd) (by simpa [tY] using hb) (by simpa [cg] using hi)⟩
     have l:d'=d/\((∃ ds,d=.list ds)\/∃ ds,d=.dict ds):=by
      cases d' <;> first | exact absurd ⟨_,rfl⟩ ct | (cases h1;exact ⟨rfl,.inl ⟨_,rfl⟩⟩) | (cases h1;exact ⟨rfl,.inr ⟨_,rfl⟩⟩) | cases h1
     obtain ⟨rfl,l⟩:=l;obtain ⟨b,e,t⟩:=Dm.ro (I:=(·∈all.map (adr σ))) q1 (fun b z=>R.ia (iAll b z)) l;exact ⟨by rcases l with ⟨_,rfl⟩ | ⟨_,rfl⟩ <;> exact ⟨b,e,t⟩,ih h2 q2 (by simpa [cg] using nd) (by simpa [tY] using hb) (by simpa [cg] using hi)⟩
    | bor i =>
     have h1:cont env i=some d:=h1;have hb':i ∉ all:=hb i (by simp [tY]);refine ⟨?_,ih h2 q2 (by simpa [cg] using nd) (fun j hj=>hb j (by simp [tY,hj])) (by simpa [cg] using hi)⟩;unfold cont at h1;have na:∀ a,mu env i->σ[i]?=some (some (.ref a))->a ∉ all.map (adr σ):=fun a m s z=>by
      obtain ⟨j,hj,e⟩:=Kh.mp z;obtain ⟨k,mk,sk⟩:=iAll a z;obtain ⟨dj,mj⟩:=hall j hj;have:∃ c,σ[j]?=some (some (.ref c)):=by
       rcases mj with z | z
       ·obtain ⟨a,s,_⟩:=R.own j dj z;exact ⟨a,s⟩
       ·obtain ⟨a,s,_⟩:=R.ino j dj z;exact ⟨a,s⟩
      obtain ⟨c,sj⟩:=this;rw [fD sj] at e;subst e;have:=R.sep i j c m ⟨dj,mj⟩ s sj;subst this;exact hb' hj
     split at h1
     ·rename_i d' e;cases h1;obtain ⟨a,s,_,_,t⟩:=R.own i d e;rw [show σ[i]?=some (some v) from q1] at s;cases s;exact d4.bor (t.ro (na a ⟨d,.inl e⟩ q1))
     ·rename_i d' e;cases h1;obtain ⟨a,s,_,_,t⟩:=R.ino i d e;rw [show σ[i]?=some (some v) from q1] at s;cases s;exact d4.bor (t.ro (na a ⟨d,.inr e⟩ q1))
     ·rename_i d' e;cases h1;obtain ⟨a,s,t⟩:=R.ro i d e;rw [show σ[i]?=some (some v) from q1] at s;cases s;exact d4.bor (t.pr Pr.refl (fun _ z=>z) iAll fun _ _ z _=>z)
     ·cases h1
   | ino =>
    cases a with
    | dat d'=>cases h1
    | bor i =>
     have h1:aC env i=some d:=h1;obtain ⟨m,b,s,f,t⟩:=R.cH h1;rw [show σ[i]?=some (some v) from q1] at s;cases s;have nd':i ∉ cg ms as/\(cg ms as).Nodup:=by simpa [cg] using nd
     refine ⟨b,(cg ms as).map (adr σ),rfl,by simp [cg,fD q1],f,t,fun z=>?_,ih h2 q2 nd'.2 (by simpa [tY] using hb) (fun j hj=>hi j (by simp [cg,hj]))⟩;obtain ⟨j,hj,e⟩:=Kh.mp z;obtain ⟨dj,mj⟩:=hall j (hi j (by simp [cg,hj]));have:∃ c,σ[j]?=some (some (.ref c)):=by
      rcases mj with z | z
      ·obtain ⟨a,s,_⟩:=R.own j dj z;exact ⟨a,s⟩
      ·obtain ⟨a,s,_⟩:=R.ino j dj z;exact ⟨a,s⟩
     obtain ⟨c,sj⟩:=this;rw [fD sj] at e;subst e;have:=R.sep i j c m ⟨dj,mj⟩ q1 sj;subst this;exact nd'.1 hj
theorem qX:∀ {ms:List PM} {as:List AV} {ds:List PyData},iO env ms as=some ds->∀ i∈cg ms as,mu env i
 | [],[],_,_,i,h=>by simp [cg] at h
 | [],_ :: _,_,h,_,_=>by cases h
 | _ :: _,[],_,h,_,_=>by cases h
 | m :: ms,a :: as,_,h,i,hi=>by
  obtain ⟨d,r,rfl,h1,h2⟩:=iZ h;have ih:=qX h2 i;cases m with
  | dat=>exact ih (by simpa [cg] using hi)
  | bor=>exact ih (by simpa [cg] using hi)
  | ino =>
   cases a with
   | dat d'=>cases h1
   | bor j =>
    simp only [cg,JV] at hi;rcases hi with rfl | hi
    ·rcases nJ h1 with e | e
     ·exact ⟨d,.inl e⟩
     ·exact ⟨d,.inr e⟩
    ·exact ih hi
theorem k7:∀ (env:En) (is:List Nat) (ds:List PyData),SmK env (cK env is ds)
 | env,[],ds=>by unfold cK;exact SmK.refl _
 | env,i :: is,[]=>by unfold cK;exact SmK.refl _
 | env,i :: is,d :: ds=>by unfold cK;exact (df env i d).trans (k7 _ is ds)
theorem gQ:∀ (env:En) (is:List Nat) (ds:List PyData) (j:Nat),j ∉ is->(cK env is ds)[j]?=env[j]?
 | env,[],ds,j,_=>by unfold cK;rfl
 | env,i :: is,[],j,_=>by unfold cK;rfl
 | env,i :: is,d :: ds,j,h=>by
  unfold cK;have n:j≠i:=fun z=>h (by rw [z];exact Jy);rw [gQ _ is ds j (fun z=>h (JJ _ z)),jz n]
theorem jP {G:Addr->Prop}:∀ {env:En} {is:List Nat} {ds:List PyData} {j:Nat} {c:PyData},is.Nodup->(∀ i∈is,mu env i)->ix K G H ds (is.map (adr σ))->j∈is->aC (cK env is ds) j=some c->Top K G H c (adr σ j)
 | env,[],ds,j,c,_,_,_,h,_=>by simp at h
 | env,i :: is,[],j,c,_,_,h,_,_=>by simp [ix] at h
 | env,i :: is,d :: ds,j,c,nd,hm,h,hj,hc=>by
  obtain ⟨n1,nd'⟩:=KC.mp nd;have h':Top K G H d (adr σ i)/\ix K G H ds (is.map (adr σ)):=h;unfold cK at hc;rcases JV.mp hj with rfl | hj
  ·have e:=gQ (fH env j d) is ds j n1;have:aC (fH env j d) j=some c:=by unfold aC at hc ⊢;rwa [e] at hc
   rw [jx (hm j Jy)] at this;cases this;exact h'.1
  ·exact jP (env:=fH env i d) nd' (fun k hk=>(df env i d).symm.kp.mu (hm k (JJ _ hk))) h'.2 hj hc
theorem fW:∀ {is:List Nat},zq is=true->is.Nodup
 | [],_=>List.nodup_nil
 | x :: xs,h=>by
  have h':xs.contains x=false/\zq xs=true:=by simpa [zq] using h
  exact KC.mpr ⟨fun z=>by simp [z] at h',fW h'.2⟩
theorem xJ {is bs:List Nat} {n:Nat} (h:ckA is bs n=true):is.Nodup/\(∀ i∈bs,i ∉ is)/\n=is.length:=by
 unfold ckA at h;simp only [Kl,Lf,Kg] at h;exact ⟨fW h.1,fun i hi z=>by have:=h.2.1 i hi;simp [z] at this,h.2.2⟩
theorem s_call {f:Fn} {as:XA} (ih:SA K ga gd as):SE K ga gd (.call f as):=by
 intro env rv env' h F0 H₀ I σ H Q R q;simp only [dE] at h;split at h
 ·rename_i avs e1 h1;unfold uB at h;split at h
  ·cases h
  ·rename_i ds h2;split at h
   ·cases h
   ·rename_i pr outs h3;split at h
    ·rename_i hc;obtain ⟨nd,hb,hl⟩:=xJ hc;cases h;refine ih _ _ _ h1 F0 H₀ I σ H _ R fun vs H1 R1 k1 a1=>?_;show cE f K (vs++[]) H1 Q NoE;rw [Kj];have hmu:=qX h2;refine ⟨FF F0 e1 σ,ds,(cg f.ms avs).map (adr σ),pr,outs,h3,DH R1 (cg f.ms avs) hmu h2 a1 nd hb (fun _ z=>z),fun b z=>R1.dB z,fun v H2 hk hr=>?_⟩;have k:=k7 e1 (cg f.ms avs) outs;have eF:=k.ff (F0:=F0) (σ:=σ);have eI:=k.ia (σ:=σ);have isIA:∀ b,b∈(cg f.ms avs).map (adr σ)->IA e1 σ b:=fun b hb=>by
      obtain ⟨i,hi,e⟩:=Kh.mp hb;obtain ⟨d,m'⟩:=hmu i hi;have:∃ a,σ[i]?=some (some (.ref a)):=by
       rcases m' with z | z
       ·obtain ⟨a,s,_⟩:=R1.own i d z;exact ⟨a,s⟩
       ·obtain ⟨a,s,_⟩:=R1.ino i d z;exact ⟨a,s⟩
      obtain ⟨a,s⟩:=this;rw [fD s] at e;subst e;exact ⟨i,hmu i hi,s⟩
     have hk':∀ b o,H1 b=some o->¬IA e1 σ b->H2 b=some o:=fun b o e n=>hk b o e fun z=>n (isIA b z);have j9:∀ j d a,j ∉ cg f.ms avs->aC (cK e1 (cg f.ms avs) outs) j=some d->σ[j]?=some (some (.ref a))->aC e1 j=some d/\a ∉ (cg f.ms avs).map (adr σ):=fun j d a hj hm hs=>by
      have hm':aC e1 j=some d:=by unfold aC at hm ⊢;rwa [gQ _ _ _ _ hj] at hm
      refine ⟨hm',fun z=>?_⟩;obtain ⟨i,hi,e⟩:=Kh.mp z;obtain ⟨i',m2,s2⟩:=isIA a z;obtain ⟨di,mi⟩:=hmu i hi;have:∃ a,σ[i]?=some (some (.ref a)):=by
       rcases mi with z | z
       ·obtain ⟨a,s,_⟩:=R1.own i di z;exact ⟨a,s⟩
       ·obtain ⟨a,s,_⟩:=R1.ino i di z;exact ⟨a,s⟩
      obtain ⟨c,sc⟩:=this;rw [fD sc] at e;subst e;have:=R1.sep j i c (R1.cH hm').1 ⟨di,mi⟩ hs sc;subst this;exact hj hi
     cases pr with
     | dat d =>
      obtain ⟨hd,ht⟩:=hr;refine q v H2 (R1.chg k hk' fun j c a hm hs=>?_) (k1.trans k.kp) (show Dm K _ H2 d v by rw [eF];exact hd);by_cases hj:j∈cg f.ms avs
      ·have:=jP nd hmu ht hj hm
       rwa [fD hs] at this
      ·obtain ⟨hm',ha⟩:=j9 j c a hj hm hs;obtain ⟨_,a',s',_,t'⟩:=R1.cH hm';rw [hs] at s';cases s';exact t'.pr (R1.oz hk') (fun _ z=>z) fun o e=>hk a o e ha
     | frs d =>
      obtain ⟨c,ev,hn,td,ht⟩:=hr;obtain ⟨o,ho,_⟩:=td.wr;have sm:ar H1 (upd H1 c o):=ar.nw o hn;have R1c:=R1.fresh (c:=c) hn sm (by rw [af];exact nofun);have cIA:¬IA e1 σ c:=fun z=>by obtain ⟨o',z,_⟩:=R1.iaT z;rw [hn] at z;cases z
      have hkc:∀ b o',upd H1 c o b=some o'->¬IA e1 σ b->H2 b=some o':=fun b o' e n=>by
       by_cases z:b=c
       ·subst z;rw [af] at e;cases e;exact ho
       ·rw [ai z] at e;exact hk' b o' e n
      have pF:Pr (fun b=>FF F0 e1 σ b\/b=c) H1 H2:=fun b o' e n=>hk' b o' e fun y=>by
       rcases n with n | n
       ·exact n (.inl (R1.ia y))
       ·obtain ⟨o2,h2,w2⟩:=R1.iaT y;rw [e] at h2;cases h2;rw [n] at w2;cases w2
      have R2c:Rel K (fun b=>F0 b\/b=c) H₀ I (cK e1 (cg f.ms avs) outs) σ H2:=by
       refine R1c.chg k hkc fun j c' a hm hs=>?_;rw [d6];by_cases hj:j∈cg f.ms avs
       ·have:=jP nd hmu ht hj hm
        rwa [fD hs] at this
       ·obtain ⟨hm',ha⟩:=j9 j c' a hj hm hs;obtain ⟨_,a',s',_,t'⟩:=R1.cH hm';rw [hs] at s';cases s';exact (t'.fresh hn).pr pF (fun _ z=>z) fun o e=>hk a o e ha
      have nino:∀ (i:Nat) (d':PyData),(cK e1 (cg f.ms avs) outs)[i]?=some (.ino d')->σ[i]?≠some (some (.ref c)):=fun i d' e' z=>cIA ⟨i,k.kp.mu ⟨d',.inr e'⟩,z⟩;have rv:dH K F0 H₀ I (cK e1 (cg f.ms avs) outs) σ H2 (.frs d) v:=by
       refine ⟨c,ev,R2c,by rw [eF];exact td,R1.oi (.inl hn),fun z=>?_,nino,fun i d' e'=>?_⟩
       ·rw [eF] at z;exact R1.dB z hn
       ·have e0:e1[i]?=some (.ro d'):=by
         rcases k.2 i with y | ⟨_,_,_,y⟩ | ⟨_,_,_,y⟩
         ·rw [<- y];exact e'
         ·rw [e'] at y;cases y
         ·rw [e'] at y;cases y
        obtain ⟨b,s,t⟩:=R1.ro i d' e0;rw [eF,eI];exact ⟨b,s,((t.fresh hn).wF hn).pr pF (fun _ z=>z) (fun _ z=>z) fun b o' e n=>hk' b o' e fun z=>n (.inl z)⟩
      exact q v H2 rv.rel (k1.trans k.kp) rv
    ·cases h
 ·cases h
theorem EY {as:XA} (ih:SA K ga gd as):SE K ga gd (.tup as):=by
 intro env rv env' h F0 H₀ I σ H Q R q;simp only [dE] at h;split at h
 ·rename_i avs e1 h1;split at h
  ·rename_i ds h2;split at h
   ·rename_i hl;cases h;refine ih _ _ _ h1 F0 H₀ I σ H _ R fun vs H1 R1 k1 a1=>?_;have dl:=a1.FW h2;have hl':vs.length<=sizeLine:=by rw [dl.len];exact hl
    refine ⟨hl',fun p hp=>?_⟩;have s:=ar.nw (.tup vs) hp;exact q _ _ (R1.same s) k1 ⟨p,vs,rfl,.inl (.inl af),hl',dl.pr (Pr.of_same s) fun _ z=>z⟩
   ·cases h
  ·cases h
 ·cases h
theorem GA {as:XA} (ih:SA K ga gd as):SE K ga gd (.lst as):=by
 intro env rv env' h F0 H₀ I σ H Q R q;simp only [dE] at h;split at h
 ·rename_i avs e1 h1;split at h
  ·rename_i ds h2;split at h
   ·rename_i hl;cases h;refine ih _ _ _ h1 F0 H₀ I σ H _ R fun vs H1 R1 k1 a1=>?_;have dl:=a1.FW h2;have hl':vs.length<=sizeLine:=by rw [dl.len];exact hl
    refine ⟨hl',fun p hp=>?_⟩;have s:=ar.nw (.lst vs) hp;exact q _ _ (R1.same s) k1 (R1.kF (pr:=.frs (.list ds)) s ⟨p,rfl,hp,vs,af,hl',(dl.fresh hp).pr (Pr.of_same s) fun _ z=>z⟩)
   ·cases h
  ·cases h
 ·cases h
theorem EA {as:XA} (ih:SF K ga gd as):SE K ga gd (.fst as):=by
 intro env rv env' h F0 H₀ I σ H Q R q;simp only [dE] at h;split at h
 ·rename_i x e1 h1;cases h;exact ih _ _ _ _ h1 F0 H₀ I σ H _ R (show PyData.strOk ⟨#[]⟩=true by simp [PyData.strOk]) fun H1 R1 k1 hl ho=>q _ H1 R1 k1 ⟨rfl,hl,ho⟩
 ·cases h
theorem El:SF K ga gd .nil:=by
 intro out env x env' h F0 H₀ I σ H Q R ok q;simp only [dF] at h;split at h
 ·rename_i hl;cases h;exact ⟨hl,q H R (KpE.refl _) hl ok⟩
 ·cases h
theorem Ay {e:XE} {r:XA} (ie:SE K ga gd e) (ir:SF K ga gd r):SF K ga gd (.cons e r):=by
 intro out env x env' h F0 H₀ I σ H Q R ok q;simp only [dF] at h;split at h
 ·rename_i y e1 h1;split at h
  ·rename_i hl;refine ie _ _ _ h1 F0 H₀ I σ H _ R fun v H1 R1 k1 a1=>?_;obtain ⟨rfl,_,oky⟩:=(show v=.str y/\y.length<=sizeLine/\PyData.strOk y=true from a1);refine ⟨y,rfl,hl,?_⟩;exact ir _ _ _ _ h F0 H₀ I σ H1 _ R1 (kH ok oky) fun H2 R2 k2 hx=>q H2 R2 (k1.trans k2) hx
  ·cases h
 ·cases h
theorem FZ:SA K ga gd .nil:=by
 intro env rv env' h F0 H₀ I σ H Q R q;simp only [dA] at h;cases h;exact q [] H R (KpE.refl _) rfl
theorem BR {e:XE} {r:XA} (ie:SE K ga gd e) (ir:SA K ga gd r):SA K ga gd (.cons e r):=by
 intro env rv env' h F0 H₀ I σ H Q R q;simp only [dA] at h;split at h
 ·rename_i rv0 e1 h1;split at h
  ·rename_i avs e2 h2;cases h;refine ie _ _ _ h1 F0 H₀ I σ H _ R fun v H1 R1 k1 a1=>?_;refine ir _ _ _ h2 F0 _ _ σ H1 _ R1.rebase fun vs H2 S2 k2 a2=>?_;exact q (v :: vs) H2 (R1.aW S2) (k1.trans k2) ⟨v,vs,rfl,a1.av.keep R1 S2 k2,a2⟩
  ·cases h
 ·cases h
end
open PySem
section
variable {K:Fg} {F F' I I' F0:Addr->Prop} {H H' H₀:Hp} {env env':En} {σ σ':St} {ga:Nat->V} {gd:List PyData}
theorem EZ {c:XT} {a b:XE} (ic:ST K ga gd c) (ia:SE K ga gd a) (ib:SE K ga gd b):SE K ga gd (.ifx c a b):=by
 intro env rv env' h F0 H₀ I σ H Q R q;simp only [dE] at h;split at h
 ·rename_i e1 h1;refine ic _ _ _ h1 F0 H₀ I σ H _ R fun H1 R1 k1=>?_;rw [JB rfl];exact ia _ _ _ h F0 H₀ I σ H1 _ R1 fun v H2 R2 k2 r=>q v H2 R2 (k1.trans k2) r
 ·rename_i e1 h1;refine ic _ _ _ h1 F0 H₀ I σ H _ R fun H1 R1 k1=>?_;rw [Jz (by decide)];exact ib _ _ _ h F0 H₀ I σ H1 _ R1 fun v H2 R2 k2 r=>q v H2 R2 (k1.trans k2) r
 ·cases h
theorem Di {a b:XE} (ia:SE K ga gd a) (ib:SE K ga gd b):SE K ga gd (.uj a b):=by
 intro env rv env' h F0 H₀ I σ H Q R q;simp only [dE] at h;split at h
 ·rename_i e1 h1;refine ia _ _ _ h1 F0 H₀ I σ H _ R fun v H1 R1 k1 r1=>⟨true,r1,?_⟩;rw [JB rfl];exact ib _ _ _ h F0 H₀ I σ H1 _ R1 fun v H2 R2 k2 r=>q v H2 R2 (k1.trans k2) r
 ·rename_i e1 h1;cases h;refine ia _ _ _ h1 F0 H₀ I σ H _ R fun v H1 R1 k1 r1=>⟨false,r1,?_⟩;rw [Jz (by decide)];exact q _ H1 R1 k1 rfl
 ·cases h
theorem Gd {a b:XE} (ia:SE K ga gd a) (ib:SE K ga gd b):SE K ga gd (.orv a b):=by
 intro env rv env' h F0 H₀ I σ H Q R q;simp only [dE] at h;split at h
 ·rename_i e1 h1;cases h;refine ia _ _ _ h1 F0 H₀ I σ H _ R fun v H1 R1 k1 r1=>⟨true,r1,?_⟩;rw [JB rfl];exact q _ H1 R1 k1 rfl
 ·rename_i e1 h1;refine ia _ _ _ h1 F0 H₀ I σ H _ R fun v H1 R1 k1 r1=>⟨false,r1,?_⟩;rw [Jz (by decide)];exact ib _ _ _ h F0 H₀ I σ H1 _ R1 fun v H2 R2 k2 r=>q v H2 R2 (k1.trans k2) r
 ·cases h
theorem Dq {a:XE} (ia:SE K ga gd a):SE K ga gd (.xK a):=by
 intro env rv env' h F0 H₀ I σ H Q R q;simp only [dE] at h;split at h
 ·rename_i x e1 h1;cases h;exact ia _ _ _ h1 F0 H₀ I σ H _ R fun v H1 R1 k1 r1=>⟨x,r1,q _ H1 R1 k1 rfl⟩
 ·cases h
theorem F6 {x y:PyData} {u v:V} (hx:Vw K F H x u) (hy:Vw K F H y v):VwL K F H [x,y] [u,v]:=⟨u,[v],rfl,hx,v,[],rfl,hy,rfl⟩
theorem Ge {p p':Prm} {a b c:XE} (ia:SE K ga gd a) (ib:SE K ga gd b) (ic:SE K ga gd c):SE K ga gd (.chn p p' a b c):=by
 intro env rv env' h F0 H₀ I σ H Q R q;simp only [dE] at h;split at h
 ·rename_i ra e1 h1;split at h
  ·rename_i rb e2 h2;split at h
   ·rename_i x y hx hy;refine ia _ _ _ h1 F0 H₀ I σ H _ R fun v H1 R1 k1 r1=>?_;refine ib _ _ _ h2 F0 _ _ σ H1 _ R1.rebase fun u H2 S2 k2 r2=>?_;have R2:=R1.aW S2;have a1:=r1.av.keep R1 S2 k2;have a2:=r2.av;rw [hx] at a1;rw [hy] at a2;have dx:Dm K (FF F0 e2 σ) H2 x v:=a1;have dy:Dm K (FF F0 e2 σ) H2 y u:=a2;split at h
    ·rename_i hp;split at h
     ·rename_i rc e3 h3;split at h
      ·rename_i z hz;split at h
       ·rename_i pr hq;cases h;refine p.ok K _ H2 _ _ _ _ hp (F6 dx.vw dy.vw) (fun b z=>R2.dB z) fun w H3 s3 hw=>⟨true,hw,?_⟩;rw [JB rfl];have R3:=R2.same s3;have dy3:Dm K (FF F0 e2 σ) H3 y u:=dy.pr (Pr.of_same s3) fun _ z=>z;refine ic _ _ _ h3 F0 _ _ σ H3 _ R3.rebase fun t H4 S4 k4 r4=>?_;have R4:=R3.aW S4;have a4:=r4.av;rw [hz] at a4;have dz:Dm K (FF F0 env' σ) H4 z t:=a4;refine p'.ok K _ H4 _ _ _ _ hq (F6 (R3.m7 S4 k4 dy3).vw dz.vw) (fun b z=>R4.dB z) fun w H5 s5 hw=>?_;exact q w H5 (R4.same s5) ((k1.trans k2).trans k4) (R4.kF s5 hw)
       ·cases h
      ·cases h
     ·cases h
    ·rename_i hp;cases h;refine p.ok K _ H2 _ _ _ _ hp (F6 dx.vw dy.vw) (fun b z=>R2.dB z) fun w H3 s3 hw=>⟨false,hw,?_⟩;rw [Jz (by decide)];exact q _ H3 (R2.same s3) (k1.trans k2) rfl
    ·cases h
   ·cases h
  ·cases h
 ·cases h
theorem Gr {p:Int->Int->Prm} {a b c:XE} (ia:SE K ga gd a) (ib:SE K ga gd b) (ic:SE K ga gd c):SE K ga gd (.sl2 p a b c):=by
 intro env rv env' h F0 H₀ I σ H Q R q;simp only [dE] at h;split at h
 ·rename_i ra e1 h1;split at h
  ·rename_i i e2 h2;split at h
   ·rename_i j e3 h3;split at h
    ·rename_i d hv;split at h
     ·rename_i pr hp;cases h;refine ia _ _ _ h1 F0 H₀ I σ H _ R fun v H1 R1 k1 r1=>?_;refine ib _ _ _ h2 F0 _ _ σ H1 _ R1.rebase fun u H2 S2 k2 r2=>⟨i,r2,?_⟩;have R2:=R1.aW S2;have a1:=r1.av.keep R1 S2 k2;refine ic _ _ _ h3 F0 _ _ σ H2 _ R2.rebase fun w H3 S3 k3 r3=>⟨j,r3,?_⟩;have R3:=R2.aW S3;have a2:=a1.keep R2 S3 k3;refine (p i j).ok K _ H3 [d] [v] pr Q hp ⟨v,[],rfl,a2.vw R3 hv,rfl⟩ (fun b z=>R3.dB z) fun w H4 s4 hw=>?_;exact q w H4 (R3.same s4) ((k1.trans k2).trans k3) (R3.kF s4 hw)
     ·cases h
    ·cases h
   ·cases h
  ·cases h
 ·cases h
theorem Et {e:XE} (ie:SE K ga gd e):ST K ga gd (.tst e):=by
 intro env b env' h F0 H₀ I σ H Q R q;simp only [dT] at h;split at h
 ·rename_i x e1 h1;cases h;exact ie _ _ _ h1 F0 H₀ I σ H _ R fun v H1 R1 k1 r1=>⟨_,r1,q H1 R1 k1⟩
 ·cases h
theorem iU {ds:List PyData} {vs:List V} (h:DmL K F H ds vs):vs.isEmpty=ds.isEmpty:=by
 cases ds with
 | nil=>rw [show vs=[] from h];rfl
 | cons d ds=>obtain ⟨v,r,rfl,_⟩:=h;rfl
theorem Vw.tru {d:PyData} {v:V} (h:Vw K F H d v) (nd:EB d≠true):Em K v H (FA d):=by
 cases d with
 | none=>rw [show v=.non from h];rfl
 | bool b=>rw [show v=.bl b from h];rfl
 | int i=>rw [show v=.int i from h];rfl
 | str x=>obtain ⟨rfl,hl,_⟩:=(show v=.str x/\x.length<=sizeLine/\PyData.strOk x=true from h);exact ⟨hl,rfl⟩
 | list ds=>obtain ⟨a,rfl,xs,e,_,r⟩:=h;exact .inl ⟨xs,e,by rw [iU r];rfl⟩
 | tuple ds=>obtain ⟨a,xs,rfl,e,_,r⟩:=h;exact .inr (.inl ⟨xs,e,by rw [iU r];rfl⟩)
 | dict ds=>exact absurd rfl nd
theorem Ez {e:XE} (ie:SE K ga gd e):ST K ga gd (.tru e):=by
 intro env b env' h F0 H₀ I σ H Q R q;simp only [dT] at h;split at h
 ·rename_i x e1 h1;split at h
  ·rename_i d h2;split at h
   ·cases h
   ·rename_i nd;cases h;exact ie _ _ _ h1 F0 H₀ I σ H _ R fun v H1 R1 k1 r1=>⟨_,(r1.av.vw R1 h2).tru nd,q H1 R1 k1⟩
  ·cases h
 ·cases h
theorem Gx {a b:XT} (ia:ST K ga gd a) (ib:ST K ga gd b):ST K ga gd (.and a b):=by
 intro env x env' h F0 H₀ I σ H Q R q;simp only [dT] at h;split at h
 ·rename_i e1 h1;refine ia _ _ _ h1 F0 H₀ I σ H _ R fun H1 R1 k1=>?_;rw [JB rfl];exact ib _ _ _ h F0 H₀ I σ H1 _ R1 fun H2 R2 k2=>q H2 R2 (k1.trans k2)
 ·rename_i e1 h1;cases h;refine ia _ _ _ h1 F0 H₀ I σ H _ R fun H1 R1 k1=>?_;rw [Jz (by decide)];exact q H1 R1 k1
 ·cases h
theorem Iz {a b:XT} (ia:ST K ga gd a) (ib:ST K ga gd b):ST K ga gd (.or a b):=by
 intro env x env' h F0 H₀ I σ H Q R q;simp only [dT] at h;split at h
 ·rename_i e1 h1;cases h;refine ia _ _ _ h1 F0 H₀ I σ H _ R fun H1 R1 k1=>?_;rw [JB rfl];exact q H1 R1 k1
 ·rename_i e1 h1;refine ia _ _ _ h1 F0 H₀ I σ H _ R fun H1 R1 k1=>?_;rw [Jz (by decide)];exact ib _ _ _ h F0 H₀ I σ H1 _ R1 fun H2 R2 k2=>q H2 R2 (k1.trans k2)
 ·cases h
theorem FL {a:XT} (ia:ST K ga gd a):ST K ga gd (.not a):=by
 intro env x env' h F0 H₀ I σ H Q R q;simp only [dT] at h;split at h
 ·rename_i b e1 h1;cases h;exact ia _ _ _ h1 F0 H₀ I σ H _ R fun H1 R1 k1=>q H1 R1 k1
 ·cases h
theorem D7:ST K ga gd .yes:=by
 intro env x env' h F0 H₀ I σ H Q R q;simp only [dT] at h;cases h;exact q H R (KpE.refl _)
theorem wC {a:Addr} {vs:List V} {ds:List PyData} (hd:DmL K F H ds vs) (hl:vs.length<=sizeLine) (h:∀ H',(∀ b o,H b=some o->¬I b->H' b=some o)->SqL K H' a vs):uN K F I H (Itl K a) ds :=
 iz hd hl fun H' k j=>⟨fun hj=>⟨⟨vs,vs[j],h H' k,Jq hj⟩,fun x H'' y=>⟨y.1,y.2 vs (h H' k)⟩⟩,fun hj=>⟨vs,h H' k,hj⟩⟩
theorem AF {a:Addr} {vs:List V} {ds:List PyData} (hd:DmL K F H ds vs) (hl:vs.length<=sizeLine) (h:∀ H',(∀ b o,H b=some o->¬I b->H' b=some o)->SqT K H' a vs):uN K F I H (Itt K a) ds :=
 iz hd hl fun H' k j=>⟨fun hj=>⟨⟨vs,vs[j],h H' k,Jq hj⟩,fun x H'' y=>⟨y.1,y.2 vs (h H' k)⟩⟩,fun hj=>⟨vs,h H' k,hj⟩⟩
theorem xY {e:XE} (ie:SE K ga gd e):SI K ga gd (.lst e):=by
 intro env ds lock env' h F0 H₀ I σ H Q R q;simp only [dI] at h;split at h
 ·rename_i rv e1 h1;split at h
  ·rename_i ds' hv;cases h;refine ie _ _ _ h1 F0 H₀ I σ H _ R fun v H1 R1 k1 r1=>?_;have a1:=r1.av;rw [hv] at a1;obtain ⟨a,xs,rfl,l,z,r⟩:=(show Dm K (FF F0 env' σ) H1 (.list ds) v from a1);refine ⟨a,rfl,⟨xs,l.elim (fun q=>.inl q.2) .inr⟩,q _ H1 R1 k1 (fun i z=>by cases z) (wC r z fun H' k=>?_)⟩;rcases l with ⟨n,l | ⟨o,l⟩⟩ | l
   ·exact .inl (.inl (k _ _ l fun z=>n (R1.ia z.1)))
   ·exact .inl (.inr ⟨o,k _ _ l fun z=>n (R1.ia z.1)⟩)
   ·exact .inr l
  ·cases h
  ·rename_i i hv;split at h
   ·rename_i ds' hc;cases h;refine ie _ _ _ h1 F0 H₀ I σ H _ R fun v H1 R1 k1 r1=>?_;have a1:=r1.av;rw [hv] at a1;have s:σ[i]?=some (some v):=a1;unfold cont at hc;have fin:∀ a xs,v=.ref a->DmL K (FF F0 env' σ) H1 ds xs->xs.length<=sizeLine->(∀ H',(∀ b o,H1 b=some o->¬(IA env' σ b/\∀ j,some i=some j->mu env' j->σ[j]?≠some (some (.ref b)))->H' b=some o)->SqL K H' a xs)->(∃ d,cont env' i=some d) ->
      ∃ a,v=.ref a/\(∃ xs,SqL K H1 a xs)/\Q (Itl K a) H1:=fun a xs ev r z k hcd =>
     ⟨a,ev,⟨xs,k H1 fun _ _ e _=>e⟩,q _ H1 R1 k1 (fun j hj=>by cases hj;exact hcd) (wC r z k)⟩
    split at hc
    ·rename_i d e;cases hc;obtain ⟨a,s',_,_,xs,t,z,r⟩:=R1.own i _ e;rw [s] at s';cases s';exact fin a xs rfl r z (fun H' k=>.inl (.inl (k _ _ t fun y=>y.2 i rfl ⟨_,.inl e⟩ s))) ⟨_,by unfold cont;rw [e]⟩
    ·rename_i d e;cases hc;obtain ⟨a,s',_,_,xs,t,z,r⟩:=R1.ino i _ e;rw [s] at s';cases s';exact fin a xs rfl r z (fun H' k=>.inl (.inl (k _ _ t fun y=>y.2 i rfl ⟨_,.inr e⟩ s))) ⟨_,by unfold cont;rw [e]⟩
    ·rename_i d e;cases hc;obtain ⟨a,s',xs,l,z,r⟩:=R1.ro i _ e;rw [s] at s';cases s';refine fin a xs rfl r z (fun H' k=>?_) ⟨_,by unfold cont;rw [e]⟩;rcases l with ⟨n,l | ⟨o,l⟩⟩ | l
     ·exact .inl (.inl (k _ _ l fun z=>n z.1))
     ·exact .inl (.inr ⟨o,k _ _ l fun z=>n z.1⟩)
     ·exact .inr l
    ·cases hc
   ·cases h
 ·cases h
theorem sW:∀ {kvs:List (PyData×PyData)} {xs:List (PyData×V×V)},DmP K F H kvs xs->DmL K F H (kvs.map (·.1)) (xs.map (·.2.1))
 | [],xs,h=>by rw [show xs=[] from h];rfl
 | (k,d) :: kvs,xs,h=>by
  obtain ⟨j,v,r,rfl,_,h0,_,h2⟩:=h;exact ⟨j,_,rfl,h0,sW h2⟩
theorem wa {a:Addr} {ep:Nat} {xs:List (PyData×V×V)} {kvs:List (PyData×PyData)} (hd:DmP K F H kvs xs) (hl:xs.length<=sizeLine) (h:∀ H':Hp,(∀ b o,H b=some o->¬I b->H' b=some o)->H' a=some (.dD ep xs)):uN K F I H (Itd a ep xs) (kvs.map (·.1)) :=
 iz (vs:=xs.map (·.2.1)) (sW hd) (by rw [Jt];exact hl) fun H' k j=>⟨fun hj=>⟨⟨h H' k,by rw [Jt] at hj;exact hj⟩,fun x H'' y=>⟨y.1,by rw [JU];exact y.2⟩⟩,fun hj=>⟨h H' k,by rw [Jt] at hj;exact hj⟩⟩
theorem E4 {e:XE} (ie:SE K ga gd e):SI K ga gd (.dct e):=by
 intro env ds lock env' h F0 H₀ I σ H Q R q;simp only [dI] at h;split at h
 ·rename_i rv e1 h1;split at h
  ·rename_i kvs hv;cases h;refine ie _ _ _ h1 F0 H₀ I σ H _ R fun v H1 R1 k1 r1=>?_;have a1:=r1.av;rw [hv] at a1;obtain ⟨a,ep,xs,rfl,n,l,z,r⟩:=(show Dm K (FF F0 env' σ) H1 (.dict kvs) v from a1);exact ⟨a,ep,xs,rfl,l,q _ H1 R1 k1 (fun i z=>by cases z) (wa r z fun H' k=>k _ _ l fun z=>n (R1.ia z.1))⟩
  ·cases h
  ·rename_i i hv;split at h
   ·rename_i kvs hc;cases h;refine ie _ _ _ h1 F0 H₀ I σ H _ R fun v H1 R1 k1 r1=>?_;have a1:=r1.av;rw [hv] at a1;have s:σ[i]?=some (some v):=a1;unfold cont at hc;have fin:∀ a ep xs,v=.ref a->DmP K (FF F0 env' σ) H1 kvs xs->xs.length<=sizeLine->(∀ H':Hp,(∀ b o,H1 b=some o->¬(IA env' σ b/\∀ j,some i=some j->mu env' j->σ[j]?≠some (some (.ref b)))->H' b=some o)->H' a=some (.dD ep xs))->(∃ d,cont env' i=some d) ->
      ∃ a ep xs,v=.ref a/\H1 a=some (.dD ep xs)/\Q (Itd a ep xs) H1:=fun a ep xs ev r z k hcd =>
     ⟨a,ep,xs,ev,k H1 fun _ _ e _=>e,q _ H1 R1 k1 (fun j hj=>by cases hj;exact hcd) (wa r z k)⟩
    split at hc
    ·rename_i d e;cases hc;obtain ⟨a,s',_,_,ep,xs,t,z,r⟩:=R1.own i _ e;rw [s] at s';cases s';exact fin a ep xs rfl r z (fun H' k=>k _ _ t fun y=>y.2 i rfl ⟨_,.inl e⟩ s) ⟨_,by unfold cont;rw [e]⟩
    ·rename_i d e;cases hc;obtain ⟨a,s',_,_,ep,xs,t,z,r⟩:=R1.ino i _ e;rw [s] at s';cases s';exact fin a ep xs rfl r z (fun H' k=>k _ _ t fun y=>y.2 i rfl ⟨_,.inr e⟩ s) ⟨_,by unfold cont;rw [e]⟩
    ·rename_i d e;cases hc;obtain ⟨a,s',ep,xs,n,l,z,r⟩:=R1.ro i _ e;rw [s] at s';cases s';exact fin a ep xs rfl r z (fun H' k=>k _ _ l fun z=>n z.1) ⟨_,by unfold cont;rw [e]⟩
    ·cases hc
   ·cases h
 ·cases h
theorem Cu {e:XE} (ie:SE K ga gd e):SI K ga gd (.tup e):=by
 intro env ds lock env' h F0 H₀ I σ H Q R q;simp only [dI] at h;split at h
 ·rename_i rv e1 h1;split at h
  ·rename_i ds' hv;cases h;refine ie _ _ _ h1 F0 H₀ I σ H _ R fun v H1 R1 k1 r1=>?_;have a1:=r1.av;rw [hv] at a1;obtain ⟨a,xs,rfl,l,z,r⟩:=(show Dm K (FF F0 env' σ) H1 (.tuple ds) v from a1);refine ⟨a,rfl,⟨xs,l⟩,q _ H1 R1 k1 (fun i z=>by cases z) (AF r z fun H' k=>?_)⟩;exact l.pr (R1.oz fun b o e n=>k b o e fun z=>n z.1)
  ·cases h
 ·cases h
theorem Ie {e:XE} (ie:SE K ga gd e):SI K ga gd (.sq e):=by
 intro env ds lock env' h F0 H₀ I σ H Q R q;simp only [dI] at h;split at h
 ·rename_i rv e1 h1;split at h
  ·rename_i ds' hv;exact .inl (xY ie env ds lock env' (by simp only [dI,h1,hv];exact h) F0 H₀ I σ H Q R q)
  ·rename_i ds' hv;exact .inr (Cu ie env ds lock env' (by simp only [dI,h1,hv];exact h) F0 H₀ I σ H Q R q)
  ·cases h
  ·rename_i i hv;exact .inl (xY ie env ds lock env' (by simp only [dI,h1,hv];exact h) F0 H₀ I σ H Q R q)
 ·cases h
theorem xW:∀ {cs:List Nat},(∀ c∈cs,c < 0x110000)->DmL K F H (cs.map fun c=>.str ⟨#[c]⟩) (cs.map fun c=>.str ⟨#[c]⟩)
 | [],_=>rfl
 | c :: cs,h=>⟨_,_,rfl,⟨rfl,by show 1<=sizeLine;decide,by have:=h c Jy;simp [PyData.strOk,this]⟩,xW fun x hx=>h x (JJ _ hx)⟩
theorem eJ {x:Str} (h:PyData.strOk x=true):∀ c∈x.cps.toList,c < 0x110000:=fun c hc=>by
 unfold PyData.strOk at h;have:=Array.all_eq_true'.mp h c (by simpa using hc);simpa using this
theorem Gy {e:XE} (ie:SE K ga gd e):SI K ga gd (.str e):=by
 intro env ds lock env' h F0 H₀ I σ H Q R q;simp only [dI] at h;split at h
 ·rename_i rv e1 h1;split at h
  ·rename_i x hv;cases h;refine ie _ _ _ h1 F0 H₀ I σ H _ R fun v H1 R1 k1 r1=>?_;have a1:=r1.av;rw [hv] at a1;obtain ⟨rfl,hl,ok⟩:=(show v=.str x/\x.length<=sizeLine/\PyData.strOk x=true from a1);have ez:x.cps.toList.length=x.length:=by simp [Str.length]
   refine ⟨x,rfl,q _ H1 R1 k1 (fun i z=>by cases z) (iz (xW (eJ ok)) (by rw [Jt,ez];exact hl) fun H' k j=>⟨fun hj=>?_,fun hj=>?_⟩)⟩
   ·rw [Jt,ez] at hj;refine ⟨hj,fun y H'' hy=>?_⟩;obtain ⟨e,c,hc,rfl⟩:=hy;refine ⟨e,?_⟩;rw [JU];have:x.cps.toList[j]?=some c:=by rw [<- hc];simp
    rw [this];rfl
   ·rw [Jt,ez] at hj;exact hj
  ·cases h
 ·cases h
theorem wG {f:Nat->Int}:∀ {cs:List Nat},DmL K F H (cs.map fun c=>.int (f c)) (cs.map fun c=>.int (f c))
 | []=>rfl
 | c :: cs=>⟨_,_,rfl,rfl,wG⟩
theorem vP {lo:Int} {n:Nat} (hn:n<=sizeLine):uN K F I H (Itr lo n) ((List.range n).map fun (k:Nat)=>.int (lo+(k:Int))):=by
 refine iz (vs:=(List.range n).map fun (k:Nat)=>.int (lo+(k:Int))) (wG (f:=fun k=>lo+(k:Int))) (by rw [Jt,Kz];exact hn) fun H' k j=>⟨fun hj=>?_,fun hj=>?_⟩
 ·rw [Jt,Kz] at hj;refine ⟨hj,fun y H'' hy=>⟨hy.1,?_⟩⟩;rw [JU,List.getElem?_range hj,hy.2];rfl
 ·rw [Jt,Kz] at hj;exact hj
theorem Av {as:XA} (ia:SA K ga gd as):SI K ga gd (.rng1 as):=by
 intro env ds lock env' h F0 H₀ I σ H Q R q;simp only [dI] at h;split at h
 ·rename_i avs e1 h1;split at h
  ·rename_i j;split at h
   ·rename_i hj;cases h;refine ia _ _ _ h1 F0 H₀ I σ H _ R fun vs H1 R1 k1 a1=>?_;obtain ⟨v,r,rfl,hv,rfl⟩:=a1;have hv:v=.int j:=hv;subst hv;refine ⟨j,rfl,hj.1,by have:=hj.2;omega,q _ H1 R1 k1 (fun i z=>by cases z) (vP ?_)⟩;have:=hj.2;show j.toNat<=2 ^ 24;omega
   ·cases h
  ·cases h
 ·cases h
theorem AY {a b:Addr} {xs ys:List V} {ds es:List PyData} (hd:DmL K F H ds xs) (he:DmL K F H es ys) (hl:xs.length<=sizeLine) (h1:∀ H',(∀ b o,H b=some o->¬I b->H' b=some o)->SqL K H' a xs) (h2:∀ H',(∀ b o,H b=some o->¬I b->H' b=some o)->SqL K H' b ys):uN K F I H (Itz K a b xs ys) ((ds.zip es).map fun p=>.tuple [p.1,p.2]):=by
 have e1:=hd.len;have e2:=he.len;have el:((ds.zip es).map fun p=>PyData.tuple [p.1,p.2]).length=min xs.length ys.length:=by rw [Jt,List.length_zip,e1,e2]
 refine ⟨by rw [el];omega,fun H' k j=>⟨fun hj=>?_,fun hj=>?_⟩⟩
 ·rw [el] at hj;refine ⟨⟨h1 H' k,h2 H' k,by omega,by omega⟩,?_⟩;rintro x H'' ⟨p,u,v,hp,rfl,hu,hv,rfl⟩;obtain ⟨d,d1,d2⟩:=hd.get' hu;obtain ⟨e,e3,e4⟩:=he.get' hv;refine ⟨.tuple [d,e],?_,.inr ⟨p,u,v,d,e,rfl,rfl,hp,rfl,d2,e4⟩⟩;rw [JU,show (ds.zip es)[j]?=some (d,e) from List.getElem?_zip_eq_some.mpr ⟨d1,e3⟩];rfl
 ·rw [el] at hj;exact ⟨h1 H' k,h2 H' k,by omega⟩
theorem Fm {as:XA} (ia:SA K ga gd as):SI K ga gd (.zip as):=by
 intro env ds lock env' h F0 H₀ I σ H Q R q;simp only [dI] at h;split at h
 ·rename_i avs e1 h1;split at h
  ·rename_i x y;split at h
   ·rename_i xs ys hx hy;cases h;refine ia _ _ _ h1 F0 H₀ I σ H _ R fun vs H1 R1 k1 a1=>?_;obtain ⟨v,r,rfl,hv,w,r2,rfl,hw,rfl⟩:=a1;have one:∀ {x:AV} {xs:List PyData} {v:V},roL env' x=some xs->v9 K F0 env' σ H1 x v->∃ a us,v=.ref a/\us.length<=sizeLine/\DmL K (FF F0 env' σ) H1 xs us/\∀ H',(∀ b o,H1 b=some o->¬(IA env' σ b/\∀ i,none=some i->mu env' i->σ[i]?≠some (some (.ref b)))->H' b=some o)->SqL K H' a us:=by
     intro x xs v hx hv;unfold roL at hx;split at hx
     ·cases hx;obtain ⟨a,us,rfl,l,z,r⟩:=(show Dm K (FF F0 env' σ) H1 (.list xs) v from hv);refine ⟨a,us,rfl,z,r,fun H' k=>?_⟩;rcases l with ⟨n,l | ⟨o,l⟩⟩ | l
      ·exact .inl (.inl (k _ _ l fun z=>n (R1.ia z.1)))
      ·exact .inl (.inr ⟨o,k _ _ l fun z=>n (R1.ia z.1)⟩)
      ·exact .inr l
     ·rename_i i;split at hx
      ·rename_i e;cases hx;have s:σ[i]?=some (some v):=hv;obtain ⟨a,s',us,l,z,r⟩:=R1.ro i _ e;rw [s] at s';cases s';refine ⟨a,us,rfl,z,r,fun H' k=>?_⟩;rcases l with ⟨n,l | ⟨o,l⟩⟩ | l
       ·exact .inl (.inl (k _ _ l fun z=>n z.1))
       ·exact .inl (.inr ⟨o,k _ _ l fun z=>n z.1⟩)
       ·exact .inr l
      ·cases hx
     ·cases hx
    obtain ⟨a,us,rfl,za,ra,sa⟩:=one hx hv;obtain ⟨b,ws,rfl,zb,rb,sb⟩:=one hy hw;exact ⟨a,b,us,ws,rfl,sa H1 fun _ _ e _=>e,sb H1 fun _ _ e _=>e,q _ H1 R1 k1 (fun i z=>by cases z) (AY ra rb za sa sb)⟩
   ·cases h
  ·cases h
 ·cases h
theorem z6 {as:XA} (ia:SA K ga gd as):SI K ga gd (.rng2 as):=by
 intro env ds lock env' h F0 H₀ I σ H Q R q;simp only [dI] at h;split at h
 ·rename_i avs e1 h1;split at h
  ·rename_i i j;split at h
   ·rename_i hj;cases h;refine ia _ _ _ h1 F0 H₀ I σ H _ R fun vs H1 R1 k1 a1=>?_;obtain ⟨v,r,rfl,hv,w,r2,rfl,hw,rfl⟩:=a1;have hv:v=.int i:=hv;have hw:w=.int j:=hw;subst hv hw;refine ⟨i,j,rfl,⟨hj.1,hj.2.1,hj.2.2.1,hj.2.2.2.1⟩,q _ H1 R1 k1 (fun i z=>by cases z) (vP ?_)⟩;have:=hj.2.2.2.2;show (j - i).toNat<=2 ^ 24;omega
   ·cases h
  ·cases h
 ·cases h
end
open PySem
section
variable {K:Fg} {F F' I I' F0:Addr->Prop} {H H' H₀:Hp} {env env':En} {σ σ':St} {ga:Nat->V} {gd:List PyData}
theorem dH.carry {d:PyData} {p:Addr} (h:dH K F0 H₀ I env σ H (.frs d) (.ref p)) (S:Rel K (fun b=>F0 b\/b=p) H (IA env σ) env' σ H') (k:KpE env env'):dH K F0 H₀ I env' σ H' (.frs d) (.ref p):=by
 obtain ⟨a,ea,R,t,w,nF,hi,hr⟩:=h;cases ea;have cIA:¬IA env σ p:=fun z=>by
  obtain ⟨i,⟨c,e | e⟩,s⟩:=z
  ·exact nF (.inr ⟨i,c,e,s⟩)
  ·exact hi i c e s
 have R':=R.aW S;have hk:∀ b o,H b=some o->¬IA env σ b->H' b=some o:=S.cL;have pF:Pr (fun b=>FF F0 env σ b\/b=p) H H':=by
  have:=R.oz hk
  rwa [d6] at this
 have hf:∀ b,(FF F0 env' σ b\/b=p)->(FF F0 env σ b\/b=p):=fun b z=>z.imp (fun z=>k.ff z) id;refine ⟨p,rfl,R',t.pr pF hf fun o e=>hk p o e cIA,w,fun z=>nF (k.ff z),fun i c e s=>cIA ⟨i,k.mu ⟨c,.inr e⟩,s⟩,fun i c e=>?_⟩;obtain ⟨s,e0,ev⟩:=k.back e;have es:s=.ro c:=by
  cases s with
  | un=>cases ev
  | dat _=>cases ev
  | own _=>rcases ev with ⟨_,v⟩ | ⟨_,v⟩ | v <;> cases v
  | ino _=>obtain ⟨_,v⟩:=ev;cases v
  | ro d'=>cases ev;rfl
 subst es;obtain ⟨b,q,t'⟩:=hr i c e0;exact ⟨b,q,t'.pr pF hf (fun b z=>z.imp (fun z=>k.ia z) id) fun b o e n=>hk b o e fun z=>n (.inl z)⟩
theorem dH.put {d d':PyData} {p:Addr} {o:HO} (h:dH K F0 H₀ I env σ H (.frs d) (.ref p)) (ht:Top K (fun b=>FF F0 env σ b\/b=p) (upd H p o) d' p):dH K F0 H₀ I env σ (upd H p o) (.frs d') (.ref p):=by
 obtain ⟨a,ea,R,t,w,nF,hi,hr⟩:=h;cases ea;have cIA:¬IA env σ p:=fun z=>by
  obtain ⟨i,⟨c,e | e⟩,s⟩:=z
  ·exact nF (.inr ⟨i,c,e,s⟩)
  ·exact hi i c e s
 have pF:Pr (fun b=>FF F0 env σ b\/b=p) H (upd H p o):=fun b u e n=>by
  by_cases z:b=p
  ·subst z;rcases n with n | n
   ·exact absurd (.inr rfl) n
   ·obtain ⟨o',h',w'⟩:=t.wr;rw [e] at h';cases h';rw [n] at w';cases w'
  ·rw [ai z];exact e
 have eF:FF (fun b=>F0 b\/b=p) env σ=fun b=>FF F0 env σ b\/b=p:=d6;have nea:∀ i b,mu env i->σ[i]?=some (some (.ref b))->b≠p:=fun i b m s z=>cIA (z▸⟨i,m,s⟩);have hro:∀ (i:Nat) (d':PyData),env[i]?=some (.ro d')->∃ b,σ[i]?=some (some (.ref b))/\d4 K (fun b=>FF F0 env σ b\/b=p) (fun b=>IA env σ b\/b=p) (upd H p o) d' b:=fun i c e=>by
  obtain ⟨b,q,t'⟩:=hr i c e;exact ⟨b,q,t'.pr pF (fun _ z=>z) (fun _ z=>z) fun b u e n=>by rw [ai (fun z=>n (.inr z))];exact e⟩
 refine ⟨p,rfl,⟨R.len,fun i c e=>?_,fun i c e=>?_,fun i c e=>?_,fun i c e=>?_,R.sep,fun b hb=>?_,fun b u e n=>?_⟩,ht,w,nF,hi,hro⟩
 ·obtain ⟨v,s,r⟩:=R.dat i c e;rw [eF] at r ⊢;exact ⟨v,s,r.pr pF fun _ z=>z⟩
 ·obtain ⟨b,s,n,w',t'⟩:=R.own i c e;rw [eF] at t' ⊢;exact ⟨b,s,n,w',t'.pr pF (fun _ z=>z) fun u e'=>by rw [ai (nea i b ⟨c,.inl e⟩ s)];exact e'⟩
 ·obtain ⟨b,s,n,w',t'⟩:=R.ino i c e;rw [eF] at t' ⊢;exact ⟨b,s,n,w',t'.pr pF (fun _ z=>z) fun u e'=>by rw [ai (nea i b ⟨c,.inr e⟩ s)];exact e'⟩
 ·obtain ⟨b,s,t'⟩:=hro i c e;rw [eF];exact ⟨b,s,t'.pr Pr.refl (fun _ z=>z) (fun _ z=>.inl z) fun _ _ z _=>z⟩
 ·by_cases z:b=p
  ·subst z;rw [af];exact nofun
  ·rw [ai z];exact R.dom b hb
 ·have:=R.cL b u e n;by_cases z:b=p
  ·subst z;rcases w with w | w
   ·rw [e] at w;cases w
   ·exact absurd w n
  ·rw [ai z];exact this
theorem v5 (a b:Key):PyData.eqv (kD a) (kD b)=decide (a=b):=by
 cases a with
 | inl i=>cases b with
  | inl j=>by_cases z:i=j <;> simp [kD,PyData.eqv,z]
  | inr y=>simp [kD,PyData.eqv]
 | inr x=>cases b with
  | inl j=>simp [kD,PyData.eqv]
  | inr y=>by_cases z:x=y <;> simp [kD,PyData.eqv,z]
theorem wq {k:PyData}:∀ {ds:List (PyData×PyData)} {xs:List (PyData×V×V)},DmP K F H ds xs->(ds.any fun kv=>PyData.eqv kv.1 k)=xs.any fun x=>PyData.eqv x.1 k
 | [],xs,h=>by rw [show xs=[] from h];rfl
 | (k',d) :: ds,xs,h=>by
  obtain ⟨j,v,r,rfl,_,_,_,h2⟩:=h;rw [L4,L4,wq h2]
theorem rQ {k d:PyData} {v:V} (hd:Dm K F H d v):∀ {ds:List (PyData×PyData)} {xs:List (PyData×V×V)},DmP K F H ds xs->DmP K F H (ds.map fun kv=>if PyData.eqv kv.1 k=true then (kv.1,d) else kv) (xs.map fun x=>if PyData.eqv x.1 k=true then (x.1,x.2.1,v) else x)
 | [],xs,h=>by rw [show xs=[] from h];rfl
 | (k',d') :: ds,xs,h=>by
  obtain ⟨j,w,r,rfl,e,h0,h1,h2⟩:=h;rw [List.map_cons,List.map_cons];by_cases z:PyData.eqv k' k=true
  ·rw [JB z,JB z];exact ⟨j,v,_,rfl,e,h0,hd,rQ hd h2⟩
  ·rw [Jz z,Jz z];exact ⟨j,w,_,rfl,e,h0,h1,rQ hd h2⟩
theorem wc {k d:PyData} {j v:V} (hk:hk6 k=true) (hj:Dm K F H k j) (hd:Dm K F H d v):∀ {ds:List (PyData×PyData)} {xs:List (PyData×V×V)},DmP K F H ds xs->DmP K F H (ds++[(k,d)]) (xs++[(k,j,v)])
 | [],xs,h=>by rw [show xs=[] from h];exact ⟨j,v,[],rfl,hk,hj,hd,rfl⟩
 | (k',d') :: ds,xs,h=>by
  obtain ⟨i,w,r,rfl,e,h0,h1,h2⟩:=h;exact ⟨i,w,_,rfl,e,h0,h1,wc hk hj hd h2⟩
theorem wJ {k d:PyData} {j v:V} {ds:List (PyData×PyData)} {xs:List (PyData×V×V)} (h:DmP K F H ds xs) (hk:hk6 k=true) (hj:Dm K F H k j) (hd:Dm K F H d v):DmP K F H (putD ds k d) (mZ xs k j v):=by
 unfold putD mZ;rw [wq h];split
 ·exact rQ hd h
 ·exact wc hk hj hd h
theorem AH {kvs:List (Key×V)} {k:Key} {v:V}:(putK kvs k v).map cvK=mZ (kvs.map cvK) (kD k) (kV k) v:=by
 unfold putK mZ;have e:((kvs.map cvK).any fun x=>PyData.eqv x.1 (kD k))=kvs.any fun kv=>decide (kv.1=k):=by
  rw [List.any_map];congr 1;funext kv;exact v5 _ _
 rw [e];split
 ·rw [Ls,Ls];refine List.map_congr_left fun kv _=>?_;show cvK (if kv.1=k then (kv.1,v) else kv)=if PyData.eqv (kD kv.1) (kD k)=true then _ else _
  rw [v5];by_cases z:kv.1=k
  ·rw [JB z,JB (J6 z)];rfl
  ·rw [Jz z,Jz (by simp [z])]
 ·rw [Ko];rfl
theorem vI {kvs:List (Key×V)} {k:Key} {v:V}:(putK kvs k v).length<=kvs.length+1:=by
 unfold putK;split
 ·rw [Jt];exact Nat.le_succ _
 ·rw [Jr];exact JH _
theorem Cq (k:Key):hk6 (kD k)=true:=by cases k <;> rfl
theorem og:∀ {kvs:List (Key×PyData)} {vs:List (Key×V)} {ds:List (PyData×PyData)} {xs:List (Key×V)},BK K F H kvs vs->DmP K F H ds (xs.map cvK)->DmP K F H (kvs.foldl (fun acc kv=>putD acc (kD kv.1) kv.2) ds) ((cY xs vs).map cvK)/\(cY xs vs).length<=xs.length+vs.length
 | [],vs,ds,xs,h,q=>by rw [show vs=[] from h];exact ⟨q,JH _⟩
 | (k,d) :: kvs,vs,ds,xs,h,q=>by
  obtain ⟨v,r,rfl,h0,h1,h2⟩:=h;have:=og h2 (xs:=putK xs k v) (by rw [AH];exact wJ q (Cq k) h0 h1);refine ⟨this.1,Ka this.2 ?_⟩;have:=vI (kvs:=xs) (k:=k) (v:=v);rw [J2];omega
theorem BK.len:∀ {kvs:List (Key×PyData)} {vs:List (Key×V)},BK K F H kvs vs->vs.length=kvs.length
 | [],vs,h=>by rw [show vs=[] from h];rfl
 | (k,d) :: kvs,vs,h=>by
  obtain ⟨v,r,rfl,h0,h1,h2⟩:=h;rw [J2,J2,h2.len]
theorem FT:SPs K ga gd .nil:=by
 intro env kvs env' h F0 H₀ I σ H Q R q;simp only [dP] at h;cases h;exact q [] H R (KpE.refl _) rfl
theorem Bj {k e:XE} {r:XP} (ik:SE K ga gd k) (ie:SE K ga gd e) (ir:SPs K ga gd r):SPs K ga gd (.cons k e r):=by
 intro env kvs env' h F0 H₀ I σ H Q R q;simp only [dP] at h;split at h
 ·rename_i rk e1 h1;split at h
  ·rename_i rv e2 h2;split at h
   ·rename_i kvs' e3 h3;split at h
    ·rename_i dk d hk hd;split at h
     ·rename_i key hkey;cases h;refine ik _ _ _ h1 F0 H₀ I σ H _ R fun v H1 R1 k1 r1=>?_;refine ie _ _ _ h2 F0 _ _ σ H1 _ R1.rebase fun u H2 S2 k2 r2=>?_;have R2:=R1.aW S2;refine ir _ _ _ h3 F0 _ _ σ H2 _ R2.rebase fun vs H3 S3 k3 r3=>?_;have a1:=r1.av;rw [hk] at a1;have a2:=r2.av;rw [hd] at a2;have ev:v=kV key:=by
       cases dk with
       | int i=>cases hkey;exact (show v=.int i from a1)
       | str x=>cases hkey;exact (show v=.str x/\_ from a1).1
       | _=>cases hkey
      have dd:Dm K (FF F0 env' σ) H3 d u:=R2.m7 S3 k3 a2;have dk':Dm K (FF F0 env' σ) H3 (kD key) (kV key):=by
       cases dk with
       | int i=>cases hkey;rfl
       | str x=>cases hkey;exact ⟨rfl,(show v=.str x/\_ from a1).2⟩
       | _=>cases hkey
      rw [ev];exact q ((key,u) :: vs) H3 (R2.aW S3) ((k1.trans k2).trans k3) ⟨u,vs,rfl,dk',dd,r3⟩
     ·cases h
    ·cases h
   ·cases h
  ·cases h
 ·cases h
theorem GI {as:XP} (ih:SPs K ga gd as):SE K ga gd (.dsp as):=by
 intro env rv env' h F0 H₀ I σ H Q R q;simp only [dE] at h;split at h
 ·rename_i kvs e1 h1;split at h
  ·rename_i hl;cases h;intro p hp;have s:=ar.nw (.dD 0 []) hp;have r0:dH K F0 H₀ I env σ (upd H p (.dD 0 [])) (.frs (.dict [])) (.ref p):=R.kF (pr:=.frs (.dict [])) s ⟨p,rfl,hp,0,[],af,by decide,rfl⟩;have R0:=r0;obtain ⟨a,ea,R0,_,_,nF,hi,_⟩:=R0;cases ea;have cIA:¬IA env σ p:=fun z=>by
    obtain ⟨i,⟨c,e | e⟩,s⟩:=z
    ·exact nF (.inr ⟨i,c,e,s⟩)
    ·exact hi i c e s
   refine ih _ _ _ h1 _ _ _ σ _ _ R0.rebase fun vs H2 S2 k2 ps=>?_;have r2:=r0.carry S2 k2;rw [d6] at ps;have hm:=og ps (xs:=[]) (show DmP K (fun b=>FF F0 env' σ b\/b=p) H2 [] [] from rfl);have hlen:(cY [] vs).length<=15:=by
    have:=hm.2;rw [ps.len] at this;simp only [KN] at this;omega
   refine ⟨S2.cL p _ af cIA,vs,rfl,by rw [ps.len];exact hl,fun ep=>?_⟩;have r3:dH K F0 H₀ I env' σ (upd H2 p (.dD ep ((cY [] vs).map cvK))) (.frs (.dict (kvs.foldl (fun acc kv=>putD acc (kD kv.1) kv.2) []))) (.ref p):=by
    refine r2.put ⟨ep,(cY [] vs).map cvK,af,by rw [Jt];exact Ka hlen (by decide),hm.1.pr ?_ fun _ z=>z⟩;intro b u e n;by_cases z:b=p
    ·subst z;rcases n with n | n
     ·exact absurd (.inr rfl) n
     ·have:=S2.cL b _ af cIA;rw [e] at this;cases this;cases n
    ·rw [ai z];exact e
   exact q _ _ r3.rel k2 r3
  ·cases h
 ·cases h
end
open PySem
section
variable {K:Fg} {F F' I I' F0:Addr->Prop} {H H' H₀:Hp} {env env':En} {σ σ':St} {ga:Nat->V} {gd:List PyData}
theorem kC {α:Type}:∀ {l:List α} {i j:Nat} {x:α},l.Nodup->l[i]?=some x->l[j]?=some x->i=j
 | [],_,_,_,_,h,_=>by simp at h
 | y :: l,0,0,_,_,_,_=>rfl
 | y :: l,0,j+1,x,nd,h1,h2=>by
  simp at h1 h2;subst h1;exact absurd (J5 h2) (KC.mp nd).1
 | y :: l,i+1,0,x,nd,h1,h2=>by
  simp at h1 h2;subst h2;exact absurd (J5 h1) (KC.mp nd).1
 | y :: l,i+1,j+1,x,nd,h1,h2=>by
  simp at h1 h2;rw [kC (KC.mp nd).2 h1 h2]
def noOwn (env:En):Prop:=∀ (i:Nat) (d:PyData),env[i]?≠some (.own d)
theorem cn (h:noOwn env):FF F0 env σ=F0:=by
 funext b;apply propext;constructor
 ·rintro (q | ⟨i,d,e,_⟩)
  ·exact q
  ·exact absurd e (h i d)
 ·exact .inl
theorem noOwn.kp (h:noOwn env) (k:KpE env env'):noOwn env':=fun i d e=>by
 obtain ⟨d',e'⟩:=k.own e;exact h i d' e'
def oX:Sl->Prop | .dat _=>True | .un=>True | _=>False
theorem fU {pre:En} {ps:St} (hp:∀ s∈pre,oX s) (hl:pre.length=ps.length):FF F0 (pre++env) (ps++σ)=FF F0 env σ:=by
 funext b;apply propext;constructor
 ·rintro (q | ⟨i,d,e,s⟩)
  ·exact .inl q
  ·by_cases hi:i < pre.length
   ·rw [JM hi] at e;have:=hp _ (J5 e);exact absurd this id
   ·rw [Jv (by omega)] at e;rw [Jv (by omega),<-hl] at s;exact .inr ⟨_,d,e,s⟩
 ·rintro (q | ⟨i,d,e,s⟩)
  ·exact .inl q
  ·refine .inr ⟨pre.length+i,d,?_,?_⟩
   ·rw [Jv (by omega)];simpa using e
   ·rw [Jv (by omega),hl];simpa using s
theorem j7 {pre:En} (hp:∀ s∈pre,oX s) {i:Nat} (h:mu (pre++env) i):pre.length<=i/\mu env (i - pre.length):=by
 obtain ⟨d,h⟩:=h;by_cases hi:i < pre.length
 ·rw [JM hi] at h;rcases h with h | h <;> exact absurd (hp _ (J5 h)) id
 ·rw [Jv (by omega)] at h;exact ⟨by omega,d,h⟩
theorem nY {pre:En} {ps:St} (hp:∀ s∈pre,oX s) (hl:pre.length=ps.length):IA (pre++env) (ps++σ)=IA env σ:=by
 funext b;apply propext;constructor
 ·rintro ⟨i,m,s⟩;obtain ⟨hi,m'⟩:=j7 hp m;rw [Jv (by omega),<-hl] at s;exact ⟨_,m',s⟩
 ·rintro ⟨i,⟨d,m⟩,s⟩;refine ⟨pre.length+i,⟨d,?_⟩,?_⟩
  ·rw [Jv (by omega)];simpa using m
  ·rw [Jv (by omega),hl];simpa using s
theorem Rel.front (R:Rel K F0 H₀ I env σ H) {ds:List PyData} {vs:List V} (h:DmL K (FF F0 env σ) H ds vs):Rel K F0 H₀ I (ds.map .dat++env) (vs.map some++σ) H:=by
 have hp:∀ s∈(ds.map Sl.dat),oX s:=fun s hs=>by obtain ⟨d,_,rfl⟩:=Kh.mp hs;trivial
 have hl:(ds.map Sl.dat).length=(vs.map some).length:=by rw [Jt,Jt,h.len]
 have hl2:(ds.map Sl.dat).length=ds.length:=Jt _;have eF:=fU (F0:=F0) (env:=env) (σ:=σ) hp hl;have eI:=nY (env:=env) (σ:=σ) hp hl;have back:∀ {i:Nat} {s:Sl},(ds.map Sl.dat++env)[i]?=some s->(∀ d,s≠.dat d)->(ds.map Sl.dat).length<=i/\env[i - (ds.map Sl.dat).length]?=some s:=fun {i s} e n=>by
  by_cases hi:i < (ds.map Sl.dat).length
  ·rw [JM hi] at e;obtain ⟨d,_,z⟩:=Kh.mp (J5 e);exact absurd z.symm (n d)
  ·rw [Jv (by omega)] at e;exact ⟨by omega,e⟩
 have fs:∀ {i:Nat} {x:Option V},(ds.map Sl.dat).length<=i->σ[i - (ds.map Sl.dat).length]?=some x->(vs.map some++σ)[i]?=some x:=fun {i x} hi e=>by
  rw [Jv (by omega),<-hl];exact e
 refine ⟨by rw [Jr,Jr,hl,R.len],fun i d e=>?_,fun i d e=>?_,fun i d e=>?_,fun i d e=>?_,fun i j a h1 h2 h3 h4=>?_,R.dom,R.cL⟩
 ·rw [eF];by_cases hi:i < (ds.map Sl.dat).length
  ·rw [JM hi,JU] at e;cases e2:ds[i]? with
   | none=>rw [e2] at e;cases e
   | some d' =>
    rw [e2] at e;cases e;obtain ⟨v,q,r⟩:=h.get e2;refine ⟨v,?_,r⟩;rw [JM (by omega),JU,q];rfl
  ·rw [Jv (by omega)] at e;obtain ⟨v,s,r⟩:=R.dat _ d e;exact ⟨v,fs (by omega) s,r⟩
 ·rw [eF];obtain ⟨hi,e⟩:=back e (fun _=>nofun);obtain ⟨a,s,q⟩:=R.own _ d e;exact ⟨a,fs hi s,q⟩
 ·rw [eF];obtain ⟨hi,e⟩:=back e (fun _=>nofun);obtain ⟨a,s,q⟩:=R.ino _ d e;exact ⟨a,fs hi s,q⟩
 ·rw [eF,eI];obtain ⟨hi,e⟩:=back e (fun _=>nofun);obtain ⟨a,s,q⟩:=R.ro _ d e;exact ⟨a,fs hi s,q⟩
 ·obtain ⟨i1,m1⟩:=j7 hp h1;obtain ⟨i2,m2⟩:=j7 hp h2;rw [Jv (by omega),<-hl] at h3 h4;have:=R.sep _ _ a m1 m2 h3 h4;omega
theorem Rel.behind {pre:En} {ps:St} (R:Rel K F0 H₀ I (pre++env) (ps++σ) H) (hp:∀ s∈pre,oX s) (hl:pre.length=ps.length):Rel K F0 H₀ I env σ H:=by
 have eF:=fU (F0:=F0) (env:=env) (σ:=σ) hp hl;have eI:=nY (env:=env) (σ:=σ) hp hl;have up:∀ {i:Nat} {s:Sl},env[i]?=some s->(pre++env)[pre.length+i]?=some s:=fun {i s} e=>by
  rw [Jv (by omega)];simpa using e
 have dn:∀ {i:Nat} {x:Option V},(ps++σ)[pre.length+i]?=some x->σ[i]?=some x:=fun {i x} e=>by
  rw [Jv (by omega),hl] at e;simpa using e
 have us:∀ {i:Nat} {x:Option V},σ[i]?=some x->(ps++σ)[pre.length+i]?=some x:=fun {i x} e=>by
  rw [Jv (by omega),hl];simpa using e
 refine ⟨by have:=R.len;rw [Jr,Jr,hl] at this;omega,fun i d e=>?_,fun i d e=>?_,fun i d e=>?_,fun i d e=>?_,fun i j a h1 h2 h3 h4=>?_,R.dom,R.cL⟩
 ·obtain ⟨v,s,r⟩:=R.dat _ d (up e);rw [eF] at r;exact ⟨v,dn s,r⟩
 ·obtain ⟨v,s,r⟩:=R.own _ d (up e);rw [eF] at r;exact ⟨v,dn s,r⟩
 ·obtain ⟨v,s,r⟩:=R.ino _ d (up e);rw [eF] at r;exact ⟨v,dn s,r⟩
 ·obtain ⟨v,s,r⟩:=R.ro _ d (up e);rw [eF,eI] at r;exact ⟨v,dn s,r⟩
 ·obtain ⟨d1,m1⟩:=h1;obtain ⟨d2,m2⟩:=h2;have:=R.sep (pre.length+i) (pre.length+j) a ⟨d1,m1.imp up up⟩ ⟨d2,m2.imp up up⟩ (us h3) (us h4);omega
theorem KpE.front {ds:List PyData} {e':En} (k:KpE (ds.map .dat++env) e'):∃ env',e'=ds.map .dat++env'/\KpE env env':=by
 have hlen:=k.1;rw [Jr,Jt] at hlen;refine ⟨e'.drop ds.length,?_,?_,fun i s e=>?_⟩
 ·apply List.ext_getElem?;intro i;by_cases hi:i < ds.length
  ·have hm:(ds.map Sl.dat++env)[i]?=some (.dat ds[i]):=by
    rw [JM (by rw [Jt];exact hi),JU,Jq hi];rfl
   obtain ⟨s',h',ev⟩:=k.2 i _ hm;have ev:s'=.dat ds[i]:=ev;rw [h',ev,JM (by rw [Jt];exact hi),JU,Jq hi];rfl
  ·rw [Jv (by rw [Jt];omega),List.getElem?_drop,Jt];congr 1;omega
 ·rw [K3];omega
 ·obtain ⟨s',h',ev⟩:=k.2 (ds.length+i) s (by rw [Jv (by rw [Jt];omega),Jt];simpa using e);exact ⟨s',by rw [List.getElem?_drop];exact h',ev⟩
theorem ei {lock:Option Nat} {js:List Nat} {k:Nat} {s:Sl} (h:(du env lock js)[k]?=some s):∃ j,js[k]?=some j/\s=ma (decide (lock=some j)) (env[j]?.getD .un):=by
 unfold du at h;rw [JU] at h;cases e:js[k]? with
 | none=>rw [e] at h;cases h
 | some j=>rw [e] at h;cases h;exact ⟨j,rfl,rfl⟩
theorem nP {js:List Nat} {k j:Nat} (h:js[k]?=some j):(ba js σ)[k]?=some ((σ[j]?).getD none):=by
 unfold ba;rw [JU,h];rfl
theorem bU {lock:Option Nat} {js:List Nat}:noOwn (du env lock js):=fun k d e=>by
 obtain ⟨j,_,e'⟩:=ei e;cases h:env[j]?.getD .un with
 | un=>rw [h] at e';cases e'
 | dat _=>rw [h] at e';cases e'
 | own c=>rw [h] at e';unfold ma at e';simp only at e';split at e' <;> cases e'
 | ino c=>rw [h] at e';unfold ma at e';simp only at e';split at e' <;> cases e'
 | ro _=>rw [h] at e';cases e'
theorem getD_some {j:Nat} {s:Sl} (h:env[j]?.getD .un=s) (n:s≠.un):env[j]?=some s:=by
 cases e:env[j]? with
 | none=>rw [e] at h;exact absurd h.symm n
 | some t=>rw [e] at h;cases h;rfl
theorem nR {lock:Option Nat} {js:List Nat} {k:Nat} {d:PyData} (h:(du env lock js)[k]?=some (.ino d)):∃ j,js[k]?=some j/\lock≠some j/\(env[j]?=some (.own d)\/env[j]?=some (.ino d)):=by
 obtain ⟨j,hj,e'⟩:=ei h;refine ⟨j,hj,?_⟩;cases h:env[j]?.getD .un with
 | un=>rw [h] at e';cases e'
 | dat _=>rw [h] at e';cases e'
 | own c =>
  rw [h] at e';unfold ma at e';simp only at e';split at e'
  ·cases e'
  ·rename_i n;cases e';exact ⟨by simpa using n,.inl (getD_some h nofun)⟩
 | ino c =>
  rw [h] at e';unfold ma at e';simp only at e';split at e'
  ·cases e'
  ·rename_i n;cases e';exact ⟨by simpa using n,.inr (getD_some h nofun)⟩
 | ro _=>rw [h] at e';cases e'
theorem cR {lock:Option Nat} {js:List Nat} {k:Nat} (h:mu (du env lock js) k):∃ j,js[k]?=some j/\lock≠some j/\mu env j:=by
 obtain ⟨d,h | h⟩:=h
 ·exact absurd h (bU k d)
 ·obtain ⟨j,h1,h2,h3⟩:=nR h;exact ⟨j,h1,h2,d,h3⟩
theorem bo {js:List Nat} {k j:Nat} {a:Addr} (h:js[k]?=some j) (e:(ba js σ)[k]?=some (some (.ref a))):σ[j]?=some (some (.ref a)):=by
 rw [nP h] at e;cases q:σ[j]? with
 | none=>rw [q] at e;cases e
 | some x=>rw [q] at e;cases e;rfl
theorem cf {js:List Nat} {k j:Nat} {v:V} (h:js[k]?=some j) (e:σ[j]?=some (some v)):(ba js σ)[k]?=some (some v):=by rw [nP h,e];rfl
theorem Rel.ba (R:Rel K F0 H₀ I env σ H) {lock:Option Nat} {js:List Nat} (nd:js.Nodup):Rel K (FF F0 env σ) H (IA (du env lock js) (L2.ba js σ)) (du env lock js) (L2.ba js σ) H:=by
 have eF:FF (FF F0 env σ) (du env lock js) (L2.ba js σ)=FF F0 env σ:=cn bU;have sub:∀ b,IA (du env lock js) (L2.ba js σ) b->IA env σ b:=fun b ⟨k,m,s⟩=>by
  obtain ⟨j,hj,_,mj⟩:=cR m;exact ⟨j,mj,bo hj s⟩
 refine ⟨by unfold du L2.ba;rw [Jt,Jt],fun k d e=>?_,fun k d e=>absurd e (bU k d),fun k d e=>?_,fun k d e=>?_,fun k l a h1 h2 h3 h4=>?_,fun b h=>R.dB h,fun _ _ h _=>h⟩
 ·rw [eF];obtain ⟨j,hj,e'⟩:=ei e;have ej:env[j]?=some (.dat d):=by
   cases h:env[j]?.getD .un with
   | un=>rw [h] at e';cases e'
   | dat c=>rw [h] at e';cases e';exact getD_some h nofun
   | own c=>rw [h] at e';unfold ma at e';simp only at e';split at e' <;> cases e'
   | ino c=>rw [h] at e';unfold ma at e';simp only at e';split at e' <;> cases e'
   | ro _=>rw [h] at e';cases e'
  obtain ⟨v,s,r⟩:=R.dat j d ej;exact ⟨v,cf hj s,r⟩
 ·rw [eF];obtain ⟨j,hj,_,ej⟩:=nR e;have:∃ a,σ[j]?=some (some (.ref a))/\FF F0 env σ a/\Top K (FF F0 env σ) H d a:=by
   rcases ej with ej | ej
   ·obtain ⟨a,s,_,_,t⟩:=R.own j d ej;exact ⟨a,s,.inr ⟨j,d,ej,s⟩,t⟩
   ·obtain ⟨a,s,f,_,t⟩:=R.ino j d ej;exact ⟨a,s,.inl f,t⟩
  obtain ⟨a,s,f,t⟩:=this;exact ⟨a,cf hj s,f,⟨k,⟨d,.inr e⟩,cf hj s⟩,t⟩
 ·rw [eF];obtain ⟨j,hj,e'⟩:=ei e;have lk:∀ a,lock=some j->mu env j->σ[j]?=some (some (.ref a))->¬IA (du env lock js) (L2.ba js σ) a:=fun a hl m s ⟨k',m',s'⟩=>by
   obtain ⟨j',hj',hn,mj'⟩:=cR m';have:=R.sep j' j a mj' m (bo hj' s') s;subst this;exact hn hl
  cases h:env[j]?.getD .un with
  | un=>rw [h] at e';cases e'
  | dat c=>rw [h] at e';cases e'
  | own c =>
   rw [h] at e';unfold ma at e';simp only at e';split at e'
   ·rename_i n;cases e';have ej:=getD_some h nofun;obtain ⟨a,s,_,_,t⟩:=R.own j d ej;exact ⟨a,cf hj s,t.ro (lk a (by simpa using n) ⟨d,.inl ej⟩ s)⟩
   ·cases e'
  | ino c =>
   rw [h] at e';unfold ma at e';simp only at e';split at e'
   ·rename_i n;cases e';have ej:=getD_some h nofun;obtain ⟨a,s,_,_,t⟩:=R.ino j d ej;exact ⟨a,cf hj s,t.ro (lk a (by simpa using n) ⟨d,.inr ej⟩ s)⟩
   ·cases e'
  | ro c =>
   rw [h] at e';cases e';obtain ⟨a,s,t⟩:=R.ro j d (getD_some h nofun);exact ⟨a,cf hj s,t.pr Pr.refl (fun _ z=>z) sub fun _ _ z _=>z⟩
 ·obtain ⟨j1,e1,_,m1⟩:=cR h1;obtain ⟨j2,e2,_,m2⟩:=cR h2;have:=R.sep j1 j2 a m1 m2 (bo e1 h3) (bo e2 h4);subst this;exact kC nd e1 e2
theorem aH:∀ (env:En) (js:List Nat) (es:En),SmK env (aD env js es)
 | env,[],es=>by unfold aD;exact SmK.refl _
 | env,j :: js,[]=>by unfold aD;exact SmK.refl _
 | env,j :: js,s :: es=>by
  cases s with
  | ino d=>unfold aD;exact (df env j d).trans (aH _ js es)
  | un=>unfold aD;exact aH _ js es
  | dat _=>unfold aD;exact aH _ js es
  | own _=>unfold aD;exact aH _ js es
  | ro _=>unfold aD;exact aH _ js es
theorem aF:∀ (env:En) (js:List Nat) (es:En) (i:Nat),i ∉ js->(aD env js es)[i]?=env[i]?
 | env,[],es,i,_=>by unfold aD;rfl
 | env,j :: js,[],i,_=>by unfold aD;rfl
 | env,j :: js,s :: es,i,h=>by
  have n:i≠j:=fun z=>h (by rw [z];exact Jy);have n':i ∉ js:=fun z=>h (JJ _ z);cases s with
  | ino d=>unfold aD;rw [aF _ js es i n',jz n]
  | un=>unfold aD;exact aF _ js es i n'
  | dat _=>unfold aD;exact aF _ js es i n'
  | own _=>unfold aD;exact aF _ js es i n'
  | ro _=>unfold aD;exact aF _ js es i n'
theorem c8:∀ (env:En) (js:List Nat) (es:En) (k i:Nat) (s:Sl),js.Nodup->js[k]?=some i->es[k]?=some s->(∀ d,s=.ino d->mu env i->aC (aD env js es) i=some d)/\((∀ d,s≠.ino d)->(aD env js es)[i]?=env[i]?)
 | env,[],es,k,i,s,_,h,_=>by simp at h
 | env,j :: js,[],k,i,s,_,_,h=>by simp at h
 | env,j :: js,t :: es,0,i,s,nd,h,h'=>by
  obtain ⟨n1,nd'⟩:=KC.mp nd;simp at h h';subst h h';constructor
  ·rintro d rfl m;unfold aD;have:=aF (fH env j d) js es j n1;unfold aC;rw [this];exact jx m
  ·intro hn;cases t with
   | ino d=>exact absurd rfl (hn d)
   | un=>unfold aD;exact aF _ js es j n1
   | dat _=>unfold aD;exact aF _ js es j n1
   | own _=>unfold aD;exact aF _ js es j n1
   | ro _=>unfold aD;exact aF _ js es j n1
 | env,j :: js,t :: es,k+1,i,s,nd,h,h'=>by
  obtain ⟨n1,nd'⟩:=KC.mp nd;simp at h h';have hi:i∈js:=J5 h;have ne:i≠j:=fun z=>n1 (z▸hi);cases t with
  | ino d =>
   unfold aD;have ih:=c8 (fH env j d) js es k i s nd' h h';refine ⟨fun d' e m=>ih.1 d' e ((df env j d).symm.kp.mu m),fun hn=>?_⟩;rw [ih.2 hn,jz ne]
  | un=>unfold aD;exact c8 env js es k i s nd' h h'
  | dat _=>unfold aD;exact c8 env js es k i s nd' h h'
  | own _=>unfold aD;exact c8 env js es k i s nd' h h'
  | ro _=>unfold aD;exact c8 env js es k i s nd' h h'
theorem KpE.FH (k:KpE env env') {i:Nat} {d:PyData} (e:env[i]?=some (.ino d)):∃ d',env'[i]?=some (.ino d'):=by
 obtain ⟨s',h,ev⟩:=k.2 i _ e;obtain ⟨d',rfl⟩:=ev;exact ⟨d',h⟩
theorem Rel.back (R:Rel K F0 H₀ I env σ H) {lock:Option Nat} {js:List Nat} {ec:En} (nd:js.Nodup) (S:Rel K (FF F0 env σ) H (IA (du env lock js) (L2.ba js σ)) ec (L2.ba js σ) H') (k:KpE (du env lock js) ec):Rel K F0 H₀ I (aD env js ec) σ H':=by
 have sub:∀ b,IA (du env lock js) (L2.ba js σ) b->IA env σ b:=fun b ⟨k,m,s⟩=>by
  obtain ⟨j,hj,_,mj⟩:=cR m;exact ⟨j,mj,bo hj s⟩
 have hk:∀ b o,H b=some o->¬IA env σ b->H' b=some o:=fun b o e n=>S.cL b o e fun z=>n (sub b z);have eFc:FF (FF F0 env σ) ec (L2.ba js σ)=FF F0 env σ:=cn (bU.kp k);refine R.chg (aH env js ec) hk fun i d a hm hs=>?_;have sm:=aH env js ec;have mi:mu env i:=sm.kp.mu ((nJ hm).elim (fun e=>⟨d,.inl e⟩) fun e=>⟨d,.inr e⟩);have j9:(aD env js ec)[i]?=env[i]?->¬IA (du env lock js) (L2.ba js σ) a->Top K (FF F0 env σ) H' d a:=fun e n=>by
  have hm':aC env i=some d:=by unfold aC at hm ⊢;rwa [e] at hm
  obtain ⟨_,a',s',_,t⟩:=R.cH hm';rw [hs] at s';cases s';exact t.pr (R.oz hk) (fun _ z=>z) fun o e=>S.cL a o e n
 by_cases hi:i∈js
 ·obtain ⟨p,hp⟩:=K7.mp hi;have hlen:ec.length=js.length:=by rw [k.1];unfold du;rw [Jt]
  have hpl:p < js.length:=(Js.mp hp).1;have he:ec[p]?=some (ec[p]'(by omega)):=Jq _;obtain ⟨b1,b2⟩:=c8 env js ec p i _ nd hp he;by_cases hl:lock=some i
  ·-- locked
   refine j9 (b2 fun d' z=>?_) ?_
   ·rw [z] at he;obtain ⟨s,e0,ev⟩:=k.back he;obtain ⟨j,hj,e'⟩:=ei e0;rw [hp] at hj;cases hj;obtain ⟨c,hc | hc⟩:=mi
    ·rw [hc] at e';simp only [Option.getD_some,ma,hl,decide_true,LY] at e';subst e';cases ev
    ·rw [hc] at e';simp only [Option.getD_some,ma,hl,decide_true,LY] at e';subst e';cases ev
   ·rintro ⟨q,mq,sq⟩;obtain ⟨j',hj',hn,mj'⟩:=cR mq;have:=R.sep j' i a mj' mi (bo hj' sq) hs;subst this;exact hn hl
  ·have:∃ c,(du env lock js)[p]?=some (.ino c):=by
    unfold du;rw [JU,hp];obtain ⟨c,hc | hc⟩:=mi
    ·exact ⟨c,by rw [Mc,hc];simp [ma,hl]⟩
    ·exact ⟨c,by rw [Mc,hc];simp [ma,hl]⟩
   obtain ⟨c,hc⟩:=this;obtain ⟨d',hd'⟩:=k.FH hc;rw [he] at hd';have ed:=b1 d' (Km hd') mi;rw [hm] at ed;cases ed;obtain ⟨a',s',_,_,t⟩:=S.ino p d (by rw [he];exact hd');have:=bo hp s';rw [hs] at this;cases this
   rwa [eFc] at t
 ·refine j9 (aF env js ec i hi) ?_;rintro ⟨q,mq,sq⟩;obtain ⟨j',hj',hn,mj'⟩:=cR mq;have:=R.sep j' i a mj' mi (bo hj' sq) hs;subst this;exact hi (J5 hj')
end
open PySem
section
variable {K:Fg} {F F' I I' F0:Addr->Prop} {H H' H₀ H1:Hp} {env env' e1:En} {σ σ':St} {ga:Nat->V} {gd:List PyData}
def Ei (K:Fg) (F:Addr->Prop) (H:Hp) (acc:List V):Option PyData->List V->Prop
 | none,acc'=>acc'=acc
 | some d,acc'=>∃ v,acc'=acc++[v]/\Dm K F H d v
theorem qU {step:PyData->En->Option (Option PyData×En)} {ds ys:List PyData} {ec:En} {lock:Option Nat} {js:List Nat} {J:It} {Q:VK} {τ:Type} {TI:τ->Prop} {t0:τ} {body:τ->List V->V->Hp->(τ->List V->Hp->Prop)->Prop} (ht0:TI t0)
  (R1:Rel K F0 H₀ I e1 σ H1) (nd:js.Nodup) (hit:uN K (FF F0 e1 σ) (fun b=>IA e1 σ b/\∀ i,lock=some i->mu e1 i->σ[i]?≠some (some (.ref b))) H1 J ds) (h2:uq step ds (du e1 lock js)=some (ys,ec))
  (turn:∀ t acc d envc y envc' x H',TI t->step d envc=some (y,envc')->Rel K (FF F0 e1 σ) H1 (IA (du e1 lock js) (ba js σ)) envc (ba js σ) H'->noOwn envc->Dm K (FF F0 e1 σ) H' d x->∀ N:τ->List V->Hp->Prop,
   (∀ t' acc' H2,TI t'->Rel K (FF F0 e1 σ) H1 (IA (du e1 lock js) (ba js σ)) envc' (ba js σ) H2->KpE envc envc'->Pr (FF F0 e1 σ) H' H2->Ei K (FF F0 e1 σ) H2 acc y acc'->N t' acc' H2)->body t acc x H' N)
  (fin:∀ acc H',Rel K F0 H₀ I (aD e1 js ec) σ H'->DmL K (FF F0 e1 σ) H' ys acc->acc.length<=sizeLine->∀ p,H' p=none->Q (.ref p) (upd H' p (.lst acc))) :
  ∃ W:Nat->Nat->τ->List V->Hp->Prop,(∃ m,W 0 m t0 [] H1)/\∀ i m t acc H,W i m t acc H ->
   (J.stop i H/\acc.length<=sizeLine/\∀ p,H p=none->Q (.ref p) (upd H p (.lst acc)))\/(J.go i H/\acc.length < sizeLine/\∀ x H',J.yld i H x H'->body t acc x H' fun t' acc' H2=>∃ m',m' < m/\W (i+1) m' t' acc' H2):=by
 obtain ⟨hvl,hturn⟩:=hit;have sub:∀ b,IA (du e1 lock js) (ba js σ) b->IA e1 σ b/\∀ i,lock=some i->mu e1 i->σ[i]?≠some (some (.ref b)):=fun b ⟨k,m,s⟩=>by
  obtain ⟨j,hj,hn,mj⟩:=cR m;refine ⟨⟨j,mj,bo hj s⟩,fun i hl mi si=>?_⟩;have:=R1.sep j i b mj mi (bo hj s) si;subst this;exact hn hl
 have Rc0:=R1.ba (lock:=lock) nd
 refine ⟨fun i m t acc H'=>TI t/\m=ds.length - i/\i<=ds.length/\acc.length<=i/\∃ envc done rest,uq step (ds.drop i) envc=some (rest,ec)/\ys=done++rest/\Rel K (FF F0 e1 σ) H1 (IA (du e1 lock js) (ba js σ)) envc (ba js σ) H'/\KpE (du e1 lock js) envc/\DmL K (FF F0 e1 σ) H' done acc,
  ⟨ds.length,ht0,rfl,KA _,JH _,du e1 lock js,[],ys,h2,rfl,Rc0,KpE.refl _,rfl⟩,?_⟩
 rintro i m t acc H' ⟨hti,rfl,hi,hal,envc,done,rest,hc,hy,Rc,kc,hacc⟩;have hkept:∀ b o,H1 b=some o->¬(IA e1 σ b/\∀ i,lock=some i->mu e1 i->σ[i]?≠some (some (.ref b)))->H' b=some o:=fun b o e n=>Rc.cL b o e fun z=>n (sub b z);by_cases hlt:i < ds.length
 ·right;obtain ⟨go,yld⟩:=(hturn H' hkept i).1 (by omega);refine ⟨go,by omega,fun x H'' hx=>?_⟩;obtain ⟨d,hd,hy9⟩:=yld x H'' hx;obtain ⟨sm,hdx'⟩:=hy9.dm (F2:=FF F0 e1 σ) fun d v h=>h.pr (R1.oz fun b o e n=>hkept b o e fun z=>n z.1) fun _ z=>z;have Rc:=Rc.same sm;have hacc:=hacc.pr (fun b o e _=>sm b o e) fun _ z=>z;have ed:ds.drop i=d :: ds.drop (i+1):=by
   rw [KO hlt];obtain ⟨_,q⟩:=Js.mp hd;rw [q]
  rw [ed] at hc;unfold uq at hc;split at hc
  ·rename_i y envc' hs;split at hc
   ·rename_i ys' e2 hr;cases hc;refine turn t acc d envc y envc' x H'' hti hs Rc (bU.kp kc) hdx' _ fun t' acc' H2 ht' R2 k2 p2 ha=>⟨_,by omega,ht',rfl,by omega,?_,envc',done++y.toList,ys',hr,by rw [hy,J0],R2,kc.trans k2,?_⟩
    ·cases y with
     | none=>rw [show acc'=acc from ha];omega
     | some dy=>obtain ⟨v,rfl,_⟩:=ha;rw [Jr];simp;omega
    ·have hacc':=hacc.pr p2 fun _ z=>z;cases y with
     | none=>rw [show acc'=acc from ha];simpa using hacc'
     | some dy=>obtain ⟨v,rfl,hv⟩:=ha;exact hacc'.snoc hv
   ·cases hc
  ·cases hc
 ·left;have e:i=ds.length:=by omega
  subst e;have hz:acc.length<=sizeLine:=by omega
  rw [List.drop_length] at hc;unfold uq at hc;cases hc;rw [Kj] at hy;subst hy;exact ⟨(hturn H' hkept _).2 (by omega),hz,fin acc H' (R1.back nd Rc kc) hacc hz⟩
theorem FD {js:List Nat} {it:XI} {c:XT} {e:XE} (ii:SI K ga gd it) (ic:ST K ga gd c) (ie:SE K ga gd e):SE K ga gd (.cmp js it c e):=by
 intro env rv env' h F0 H₀ I σ H Q R q;simp only [dE] at h;split at h
 ·rename_i ds lock e1 h1;split at h
  ·rename_i nd;split at h
   ·rename_i ys ec h2;cases h;refine ii _ _ _ _ h1 F0 H₀ I σ H _ R fun J H1 R1 k1 _ hit=>?_;refine Exists.elim (qU (Q:=Q) (τ:=Unit) (TI:=fun _=>True) (t0:=()) (body:=fun _ acc x H' N=>rT K ga c (some x :: ba js σ) H' fun b H2=>if b=true then rE K ga e (some x :: ba js σ) H2 fun y H3=>N () (acc++[y]) H3 else N () acc H2) trivial R1 nd hit h2 ?_ ?_) fun W hw=>?_
    rotate_right 1
    ·obtain ⟨w0,hW⟩:=hw;exact ⟨fun i m acc H=>W i m () acc H,w0,fun i m acc H w=>hW i m () acc H w⟩
    ·intro _ acc d envc y envc' x H' _ hs Rc no hd N hN;have eF:FF (FF F0 e1 σ) envc (ba js σ)=FF F0 e1 σ:=cn no;have Rx:Rel K (FF F0 e1 σ) H1 (IA (du e1 lock js) (ba js σ)) (.dat d :: envc) (some x :: ba js σ) H':=Rc.front (ds:=[d]) (vs:=[x]) ⟨x,[],rfl,by rw [eF];exact hd,rfl⟩;have frontF:∀ {e2:En},KpE envc e2->FF (FF F0 e1 σ) (.dat d :: e2) (some x :: ba js σ)=FF F0 e1 σ:=fun {e2} k=>by
      have:=fU (F0:=FF F0 e1 σ) (env:=e2) (σ:=ba js σ) (pre:=[.dat d]) (ps:=[some x]) (fun s hs=>by rw [JD.mp hs];trivial) rfl;exact this.trans (cn (no.kp k))
     unfold gZ at hs;split at hs
     ·rename_i e2 hT;split at hs
      ·rename_i rv e3 hE;split at hs
       ·rename_i dy hv;cases hs;refine ic _ _ _ hT _ _ _ _ H' _ Rx.rebase fun H2 S2 k2=>?_;rw [JB rfl];have R2:=Rx.aW S2;refine ie _ _ _ hE _ _ _ _ H2 _ R2.rebase fun v H3 S3 k3 r3=>?_;have R3:=R2.aW S3;obtain ⟨ex,e3',kx⟩:=(k2.trans k3).front (ds:=[d]);have k23:=k2.trans k3;subst e3';have ht:(([d].map Sl.dat)++ex).tail=ex:=rfl;obtain ⟨e2x,e2',k2x⟩:=k2.front (ds:=[d]);have p12:Pr (FF F0 e1 σ) H' H2:=by have:=Rx.oz S2.cL;rwa [frontF (KpE.refl _)] at this
        have p23:Pr (FF F0 e1 σ) H2 H3:=by
         have:=R2.oz S3.cL;rw [e2'] at this
         rwa [show FF (FF F0 e1 σ) ([d].map Sl.dat++e2x) (some x :: ba js σ)=FF F0 e1 σ from frontF k2x] at this
        have a3:=r3.av;rw [hv] at a3;have dv:Dm K (FF F0 e1 σ) H3 dy v:=by
         have:Dm K (FF (FF F0 e1 σ) ([d].map Sl.dat++ex) (some x :: ba js σ)) H3 dy v:=a3
         rwa [show FF (FF F0 e1 σ) ([d].map Sl.dat++ex) (some x :: ba js σ)=FF F0 e1 σ from frontF kx] at this
        exact hN () _ H3 trivial (R3.behind (pre:=[.dat d]) (ps:=[some x]) (fun s hs=>by rw [JD.mp hs];trivial) rfl) kx (p12.trans p23 fun _ z=>z) ⟨v,rfl,dv⟩
       ·cases hs
      ·cases hs
     ·rename_i e2 hT;cases hs;refine ic _ _ _ hT _ _ _ _ H' _ Rx.rebase fun H2 S2 k2=>?_;rw [Jz (by decide)];have R2:=Rx.aW S2;obtain ⟨ex,e2',kx⟩:=k2.front (ds:=[d]);subst e2';have p12:Pr (FF F0 e1 σ) H' H2:=by have:=Rx.oz S2.cL;rwa [frontF (KpE.refl _)] at this
      exact hN () _ H2 trivial (R2.behind (pre:=[.dat d]) (ps:=[some x]) (fun s hs=>by rw [JD.mp hs];trivial) rfl) kx p12 rfl
     ·cases hs
    ·intro acc H' R' hd hz p hp;have eF:=(aH e1 js ec).ff (F0:=F0) (σ:=σ);have s:=ar.nw (.lst acc) hp;exact q _ _ (R'.same s) (k1.trans (aH e1 js ec).kp) (R'.kF (pr:=.frs (.list ys)) s ⟨p,rfl,hp,acc,af,hz,by rw [eF];exact (hd.fresh hp).pr (Pr.of_same s) fun _ z=>z⟩)
   ·cases h
  ·cases h
 ·cases h
noncomputable def C8:St->Nat->List V->St
 | σ,_,[]=>σ
 | σ,k,v :: vs=>C8 (σ.set k (some v)) (k+1) vs
theorem kq:∀ {vs:List V} {k:Nat} {σ:St} {H:Hp} {Q:St->Hp->Prop},Q (C8 σ k vs) H->gNs (List.range' k vs.length) vs σ H Q
 | [],_,_,_,_,h=>⟨rfl,h⟩
 | v :: vs,k,σ,H,Q,h=>⟨v,vs,rfl,kq (vs:=vs) (k:=k+1) h⟩
theorem nK:∀ {vs:List V} {pre hd tl:St},hd.length=vs.length->C8 (pre++(hd++tl)) pre.length vs=pre++(vs.map some++tl)
 | [],pre,hd,tl,h=>by
  have:hd=[]:=Kd h;subst this;rfl
 | v :: vs,pre,[],tl,h=>by cases h
 | v :: vs,pre,x :: hd,tl,h=>by
  have hl:hd.length=vs.length:=by simpa using h
  have e:(pre++(x :: hd++tl)).set pre.length (some v)=(pre++[some v])++(hd++tl):=by
   rw [List.set_append_right _ _ (JH _)];simp
  unfold C8;rw [e];have:=nK (vs:=vs) (pre:=pre++[some v]) (hd:=hd) (tl:=tl) hl;rw [Jr] at this;rw [show pre.length+1=pre.length+[some v].length from rfl,this];simp
theorem sg (n:List Str):(qQ n).length=n.length:=by unfold qQ;rw [Jt]
theorem z7 {n:List Str} {js:List Nat} {it:XI} {e:XE} (ii:SI K ga gd it) (ie:SE K ga gd e):SE K ga gd (.Ci n js it e):=by
 intro env rv env' h F0 H₀ I σ H Q R q;simp only [dE] at h;split at h
 ·rename_i ds lock e1 h1;split at h
  ·rename_i nd;split at h
   ·rename_i ys ec h2;cases h;refine ii _ _ _ _ h1 F0 H₀ I σ H _ R fun J H1 R1 k1 _ hit=>?_;refine Exists.elim (qU (Q:=Q) (τ:=St) (TI:=fun t=>∃ hd:St,hd.length=n.length/\t=hd++ba js σ) (t0:=qQ n++ba js σ) (body:=fun t acc x H' N=>gTp K (List.range n.length) x t H' fun σ2 H2=>rE K ga e σ2 H2 fun y H3=>N σ2 (acc++[y]) H3) ⟨qQ n,sg n,rfl⟩ R1 nd hit h2 ?_ ?_) fun W hw=>?_
    rotate_right 1
    ·obtain ⟨w0,hW⟩:=hw;exact ⟨W,w0,hW⟩
    ·rintro t acc d envc y envc' x H' ⟨hd,hl,rfl⟩ hs Rc no hdx N hN;have eF:FF (FF F0 e1 σ) envc (ba js σ)=FF F0 e1 σ:=cn no;unfold jt at hs;split at hs
     ·rename_i xs;split at hs
      ·rename_i hxl;split at hs
       ·rename_i rv e3 hE;split at hs
        ·rename_i dy hv;cases hs;obtain ⟨a,vs,rfl,hq,hz,hdl⟩:=hdx;have hvl:vs.length=n.length:=by rw [hdl.len,hxl]
         refine ⟨a,vs,rfl,hq,by rw [Kz];exact hvl,?_⟩;rw [List.range_eq_range',<-hvl];refine kq ?_;have es:C8 (hd++ba js σ) 0 vs=vs.map some++ba js σ:=nK (pre:=[]) (by rw [hl,hvl]);rw [es];have Rx:Rel K (FF F0 e1 σ) H1 (IA (du e1 lock js) (ba js σ)) (xs.map .dat++envc) (vs.map some++ba js σ) H':=Rc.front (by rw [eF];exact hdl);have hpre:∀ s∈(xs.map Sl.dat),oX s:=fun s hs=>by obtain ⟨d,_,rfl⟩:=Kh.mp hs;trivial
         have hpl:(xs.map Sl.dat).length=(vs.map some).length:=by rw [Jt,Jt,hdl.len]
         have frontF:∀ {e2:En},KpE envc e2->FF (FF F0 e1 σ) (xs.map .dat++e2) (vs.map some++ba js σ)=FF F0 e1 σ:=fun {e2} k=>(fU hpre hpl).trans (cn (no.kp k));refine ie _ _ _ hE _ _ _ _ H' _ Rx.rebase fun v H3 S3 k3 r3=>?_;have R3:=Rx.aW S3;obtain ⟨ex,e3',kx⟩:=k3.front;subst e3';have p:Pr (FF F0 e1 σ) H' H3:=by have:=Rx.oz S3.cL;rwa [frontF (KpE.refl _)] at this
         have a3:=r3.av;rw [hv] at a3;have dv:Dm K (FF F0 e1 σ) H3 dy v:=by
          have:Dm K (FF (FF F0 e1 σ) (xs.map .dat++ex) (vs.map some++ba js σ)) H3 dy v:=a3
          rwa [frontF kx] at this
         have ed:(xs.map Sl.dat++ex).drop n.length=ex:=by rw [<- hxl,<-Jt (f:=Sl.dat),LV]
         rw [ed] at hN;exact hN _ _ H3 ⟨vs.map some,by rw [Jt];exact hvl,rfl⟩ (R3.behind hpre hpl) kx p ⟨v,rfl,dv⟩
        ·cases hs
       ·cases hs
      ·cases hs
     ·cases hs
    ·intro acc H' R' hd hz p hp;have eF:=(aH e1 js ec).ff (F0:=F0) (σ:=σ);have s:=ar.nw (.lst acc) hp;exact q _ _ (R'.same s) (k1.trans (aH e1 js ec).kp) (R'.kF (pr:=.frs (.list ys)) s ⟨p,rfl,hp,acc,af,hz,by rw [eF];exact (hd.fresh hp).pr (Pr.of_same s) fun _ z=>z⟩)
   ·cases h
  ·cases h
 ·cases h
mutual
theorem sE (hg:∀ g d,gd[g]?=some d->∀ F H,Dm K F H d (ga g)):∀ e:XE,SE K ga gd e
 | .var i=>D4 i | .mov i=>GC i | .tke i=>Gz i | .cst c=>Er c | .glb g=>Gp hg g
 | .prm p as=>FG (sA hg as) | .met m o as=>Fe (sE hg o) (sA hg as) | .mtr m i as=>EI (sA hg as) | .call f as=>s_call (sA hg as)
 | .tup as=>EY (sA hg as) | .lst as=>GA (sA hg as) | .dsp as=>GI (sPs hg as) | .fst as=>EA (sF hg as)
 | .ifx c a b=>EZ (sT hg c) (sE hg a) (sE hg b) | .uj a b=>Di (sE hg a) (sE hg b) | .orv a b=>Gd (sE hg a) (sE hg b) | .xK a=>Dq (sE hg a)
 | .chn p q a b c=>Ge (sE hg a) (sE hg b) (sE hg c) | .sl2 p a b c=>Gr (sE hg a) (sE hg b) (sE hg c)
 | .cmp js it c e=>FD (sI hg it) (sT hg c) (sE hg e) | .Ci n js it e=>z7 (sI hg it) (sE hg e)
theorem sA (hg:∀ g d,gd[g]?=some d->∀ F H,Dm K F H d (ga g)):∀ e:XA,SA K ga gd e
 | .nil=>FZ | .cons e r=>BR (sE hg e) (sA hg r)
theorem sF (hg:∀ g d,gd[g]?=some d->∀ F H,Dm K F H d (ga g)):∀ e:XA,SF K ga gd e
 | .nil=>El | .cons e r=>Ay (sE hg e) (sF hg r)
theorem sPs (hg:∀ g d,gd[g]?=some d->∀ F H,Dm K F H d (ga g)):∀ e:XP,SPs K ga gd e
 | .nil=>FT | .cons k e r=>Bj (sE hg k) (sE hg e) (sPs hg r)
theorem sT (hg:∀ g d,gd[g]?=some d->∀ F H,Dm K F H d (ga g)):∀ e:XT,ST K ga gd e
 | .tst e=>Et (sE hg e) | .tru e=>Ez (sE hg e) | .and a b=>Gx (sT hg a) (sT hg b) | .or a b=>Iz (sT hg a) (sT hg b) | .not a=>FL (sT hg a) | .yes=>D7
theorem sI (hg:∀ g d,gd[g]?=some d->∀ F H,Dm K F H d (ga g)):∀ e:XI,SI K ga gd e
 | .lst e=>xY (sE hg e) | .tup e=>Cu (sE hg e) | .str e=>Gy (sE hg e) | .rng1 as=>Av (sA hg as) | .rng2 as=>z6 (sA hg as) | .dct e=>E4 (sE hg e) | .sq e=>Ie (sE hg e) | .zip as=>Fm (sA hg as)
end
end
open PySem
section
variable {K:Fg} {F F' I I' F0:Addr->Prop} {H H' H₀ H1:Hp} {env env' e1:En} {σ σ':St} {ga:Nat->V} {gd:List PyData}
theorem LsF.aM {a:Addr} {xs:List V} (h:LsF K F H a xs):LsF K (fun b=>F b\/H b=none) H a xs:=by
 rcases h with ⟨n,h⟩ | h
 ·refine .inl ⟨fun z=>z.elim n fun e=>?_,h⟩;rcases h with h | ⟨o,h⟩ <;> (rw [e] at h;cases h)
 ·exact .inr h
mutual
theorem Dm.aM:∀ {d:PyData} {v:V},Dm K F H d v->Dm K (fun b=>F b\/H b=none) H d v
 | .none,v,h=>h
 | .bool b,v,h=>h
 | .int i,v,h=>h
 | .str x,v,h=>h
 | .list ds,v,h=>by
  obtain ⟨a,xs,e,l,z,r⟩:=h;exact ⟨a,xs,e,l.aM,z,DmL.aM r⟩
 | .tuple ds,v,h=>by
  obtain ⟨a,xs,e,l,z,r⟩:=h;exact ⟨a,xs,e,l,z,DmL.aM r⟩
 | .dict kvs,v,h=>by
  obtain ⟨a,ep,xs,e,n,l,z,r⟩:=h;exact ⟨a,ep,xs,e,fun q=>q.elim n fun q=>(by rw [q] at l;cases l),l,z,DmP.aM r⟩
theorem DmL.aM:∀ {ds:List PyData} {vs:List V},DmL K F H ds vs->DmL K (fun b=>F b\/H b=none) H ds vs
 | [],vs,h=>h
 | d :: ds,vs,h=>by
  obtain ⟨v,r,e,h1,h2⟩:=h;exact ⟨v,r,e,Dm.aM h1,DmL.aM h2⟩
theorem DmP.aM:∀ {ds:List (PyData×PyData)} {vs:List (PyData×V×V)},DmP K F H ds vs->DmP K (fun b=>F b\/H b=none) H ds vs
 | [],vs,h=>h
 | (k,d) :: ds,vs,h=>by
  obtain ⟨j,v,r,e,e2,h0,h1,h2⟩:=h;exact ⟨j,v,r,e,e2,Dm.aM h0,Dm.aM h1,DmP.aM h2⟩
end
theorem Top.aM {d:PyData} {a:Addr} (h:Top K F H d a):Top K (fun b=>F b\/H b=none) H d a:=by
 cases d with
 | list ds=>obtain ⟨xs,e,z,r⟩:=h;exact ⟨xs,e,z,r.aM⟩
 | dict ds=>obtain ⟨ep,xs,e,z,r⟩:=h;exact ⟨ep,xs,e,z,r.aM⟩
 | _=>exact absurd h id
theorem d4.aM {d:PyData} {a:Addr} (h:d4 K F I H d a):d4 K (fun b=>F b\/H b=none) (fun b=>I b\/H b=none) H d a:=by
 cases d with
 | list ds=>obtain ⟨xs,e,z,r⟩:=h;exact ⟨xs,e.aM,z,r.aM⟩
 | dict ds =>
  obtain ⟨ep,xs,n,e,z,r⟩:=h;exact ⟨ep,xs,fun q=>q.elim n fun q=>(by rw [q] at e;cases e),e,z,r.aM⟩
 | _=>exact absurd h id
theorem Pr.HQ (p:Pr F H H') (h:∀ b,F b->F' b):Pr F' H H':=fun b o e n=>p b o e (n.imp (fun z q=>z (h _ q)) id)
def Evs:Sl->Sl->Prop
 | .ino _,s=>∃ d,s=.ino d
 | .ro d,s=>s=.ro d
 | _,s=>(∀ d,s≠.ino d)/\∀ d,s≠.ro d
def BF:Sl->Prop | .ino _=>True | .ro _=>True | _=>False
def KpS (env:En) (σ:St) (env':En) (σ':St):Prop:=env'.length=env.length/\∀ (i:Nat) (s:Sl),env[i]?=some s->∃ s',env'[i]?=some s'/\Evs s s'/\(BF s->σ'[i]?=σ[i]?)
theorem Evs.refl:∀ s,Evs s s
 | .un=>⟨fun _=>nofun,fun _=>nofun⟩
 | .dat _=>⟨fun _=>nofun,fun _=>nofun⟩
 | .own d=>⟨fun _=>nofun,fun _=>nofun⟩
 | .ino d=>⟨d,rfl⟩
 | .ro _=>rfl
def soft (s:Sl):Prop:=(∀ d,s≠.ino d)/\∀ d,s≠.ro d
theorem Evs.soft {s s':Sl} (h:Evs s s') (q:L2.soft s):L2.soft s':=by
 cases s with
 | ino d=>exact absurd rfl (q.1 d)
 | ro d=>exact absurd rfl (q.2 d)
 | _=>exact h
theorem Evs.of {s s':Sl} (q:L2.soft s) (q':L2.soft s'):Evs s s':=by
 cases s with
 | ino d=>exact absurd rfl (q.1 d)
 | ro d=>exact absurd rfl (q.2 d)
 | _=>exact q'
theorem Evs.trans {a b c:Sl} (h:Evs a b) (q:Evs b c):Evs a c:=by
 cases a with
 | ino d=>obtain ⟨d',rfl⟩:=h;exact q
 | ro d=>rw [show b=.ro d from h] at q;exact q
 | un=>exact Evs.of ⟨fun _=>nofun,fun _=>nofun⟩ (q.soft h)
 | dat _=>exact Evs.of ⟨fun _=>nofun,fun _=>nofun⟩ (q.soft h)
 | own _=>exact Evs.of ⟨fun _=>nofun,fun _=>nofun⟩ (q.soft h)
theorem Evs.BF {a b:Sl} (h:Evs a b) (q:L2.BF a):L2.BF b:=by
 cases a with
 | ino d=>obtain ⟨d',rfl⟩:=h;trivial
 | ro d=>rw [show b=.ro d from h];trivial
 | _=>exact absurd q id
theorem KpS.refl (env:En) (σ:St):KpS env σ env σ:=⟨rfl,fun i s e=>⟨s,e,.refl s,fun _=>rfl⟩⟩
theorem KpS.trans {a b c:En} {x y z:St} (h:KpS a x b y) (q:KpS b y c z):KpS a x c z:=⟨q.1.trans h.1,fun i s e=>by
 obtain ⟨s1,e1,v1,w1⟩:=h.2 i s e;obtain ⟨s2,e2,v2,w2⟩:=q.2 i s1 e1
 exact ⟨s2,e2,v1.trans v2,fun t=>(w2 (v1.BF t)).trans (w1 t)⟩⟩
theorem KpE.s (k:KpE env env'):KpS env σ env' σ:=⟨k.1,fun i s e=>by
 obtain ⟨s',e',v⟩:=k.2 i s e;refine ⟨s',e',?_,fun _=>rfl⟩;cases s with
 | un=>rw [show s'=.un from v];exact .refl _
 | dat d=>rw [show s'=.dat d from v];exact .refl _
 | own d=>rcases v with ⟨d',rfl⟩ | ⟨d',rfl⟩ | rfl <;> exact ⟨fun _=>nofun,fun _=>nofun⟩
 | ino d=>exact v
 | ro d=>exact v⟩
theorem gM {i:Nat} (h:free env i=true):∃ s,env[i]?=some s/\L2.soft s:=by
 unfold free at h;split at h
 ·rename_i e;exact ⟨_,e,fun _=>nofun,fun _=>nofun⟩
 ·rename_i e;exact ⟨_,e,fun _=>nofun,fun _=>nofun⟩
 ·rename_i e;exact ⟨_,e,fun _=>nofun,fun _=>nofun⟩
 ·cases h
theorem r8 {i:Nat} {s s':Sl} {x:Option V} (e:env[i]?=some s) (q:L2.soft s) (q':L2.soft s'):KpS env σ (env.set i s') (σ.set i x):=by
 have hi:i < env.length:=(Js.mp e).1;refine ⟨J8,fun j t h=>?_⟩;by_cases z:i=j
 ·subst z;rw [e] at h;cases h;refine ⟨s',JK hi,.of q q',fun t=>?_⟩;cases s with
  | ino d=>exact absurd rfl (q.1 d)
  | ro d=>exact absurd rfl (q.2 d)
  | _=>exact absurd t id
 ·exact ⟨t,by rw [Ju z];exact h,.refl t,fun _=>by rw [Ju z]⟩
def lF (K:Fg) (F0:Addr->Prop) (H₀:Hp) (I:Addr->Prop) (env:En) (σ:St) (D:Ends):Out->Prop
 | .nx e=>∀ σ' H',Rel K F0 H₀ I e σ' H'->KpS env σ e σ'->D.nx σ' H'
 | .bk e=>∀ σ' H',Rel K F0 H₀ I e σ' H'->KpS env σ e σ'->D.bk σ' H'
 | .ct e=>∀ σ' H',Rel K F0 H₀ I e σ' H'->KpS env σ e σ'->D.ct σ' H'
 | .rt rv e=>∀ v σ' H',Rel K F0 H₀ I e σ' H'->KpS env σ e σ'->dH K F0 H₀ I e σ' H' rv v->D.rt v H'
def SS (K:Fg) (ga:Nat->V) (gd:List PyData) (s:XS):Prop:=∀ (env:En) (out:Out),dS gd s env=some out->∀ (F0:Addr->Prop) (H₀:Hp) (I:Addr->Prop) (σ:St) (H:Hp) (D:Ends),Rel K F0 H₀ I env σ H->lF K F0 H₀ I env σ D out->rS K ga s D σ H
theorem lF.from {D:Ends} {out:Out} (k:KpS env σ env' σ') (h:lF K F0 H₀ I env σ D out):lF K F0 H₀ I env' σ' D out:=by
 cases out with
 | nx e=>exact fun s h1 r q=>h s h1 r (k.trans q)
 | bk e=>exact fun s h1 r q=>h s h1 r (k.trans q)
 | ct e=>exact fun s h1 r q=>h s h1 r (k.trans q)
 | rt rv e=>exact fun v s h1 r q w=>h v s h1 r (k.trans q) w
theorem B8 {a b:XS} (ia:SS K ga gd a) (ib:SS K ga gd b):SS K ga gd (.seq a b):=by
 intro env out h F0 H₀ I σ H D R q;simp only [dS] at h;split at h
 ·rename_i e h1;refine ia _ _ h1 F0 H₀ I σ H _ R fun σ' H' R' k'=>?_;exact ib _ _ h F0 H₀ I σ' H' D R' (q.from k')
 ·rename_i hn;refine ia _ _ h F0 H₀ I σ H _ R ?_;cases out with
  | nx e=>exact absurd h (hn e)
  | bk e=>exact q
  | ct e=>exact q
  | rt rv e=>exact q
theorem Rel.Fu (R:Rel K F0 H₀ I env σ H) {i:Nat} {d:PyData} {v:V} (hf:free env i=true) (h:Dm K (FF F0 env σ) H d v):Rel K F0 H₀ I (env.set i (.dat d)) (σ.set i (some v)) H/\KpS env σ (env.set i (.dat d)) (σ.set i (some v)):=by
 obtain ⟨s,e,q⟩:=gM hf;have hi:i < env.length:=(Js.mp e).1;have R1:=R.forget i (some v);have:=R1.putD (i:=i) (d:=d) (v:=v) (JK hi) (h.mono (R.sub i _).1);rw [KR,KR] at this;exact ⟨this,r8 e q ⟨fun _=>nofun,fun _=>nofun⟩⟩
theorem yx {i:Nat} {e:XE} (ie:SE K ga gd e):SS K ga gd (.bz i e):=by
 intro env out h F0 H₀ I σ H D R q;simp only [dS] at h;split at h
 ·rename_i rv e1 h1;split at h
  ·rename_i d hv;split at h
   ·rename_i hf;cases h;refine ie _ _ _ h1 F0 H₀ I σ H _ R fun v H1 R1 k1 r1=>?_;have a1:=r1.av;rw [hv] at a1;obtain ⟨R2,k2⟩:=R1.Fu hf (show Dm K _ H1 d v from a1);exact q _ H1 R2 (k1.s.trans k2)
   ·cases h
  ·cases h
 ·cases h
theorem dH.forget {d:PyData} {v:V} (h:dH K F0 H₀ I env σ H (.frs d) v) (i:Nat) (x:Option V) (hs:∀ s,env[i]?=some s->L2.soft s):dH K F0 H₀ I (env.set i .un) (σ.set i x) H (.frs d) v:=by
 obtain ⟨a,ea,R,t,w,nF,hi,hr⟩:=h;have R0:=R.less hi;obtain ⟨hf,hia⟩:=R0.sub i x;have hf':∀ b,(FF F0 (env.set i .un) (σ.set i x) b\/b=a)->(FF F0 env σ b\/b=a):=fun b z=>z.imp (hf b) id;refine ⟨a,ea,R.forget i x,t.pr Pr.refl hf' fun _ z=>z,w,fun z=>nF (hf _ z),fun j c e s=>?_,fun j c e=>?_⟩
 ·rcases get_set e with ⟨_,z⟩ | ⟨n,e⟩
  ·cases z
  ·rw [Ju n] at s;exact hi j c e s
 ·rcases get_set e with ⟨_,z⟩ | ⟨n,e⟩
  ·cases z
  ·obtain ⟨b,s,r⟩:=hr j c e;exact ⟨b,by rw [Ju n];exact s,r.pr Pr.refl hf' (fun b z=>z.imp (hia b) id) fun _ _ z _=>z⟩
theorem xi {i:Nat} {e:XE} (ie:SE K ga gd e):SS K ga gd (.u0 i e):=by
 intro env out h F0 H₀ I σ H D R q;simp only [dS] at h;split at h
 ·rename_i d e1 h1;split at h
  ·rename_i hf;cases h;refine ie _ _ _ h1 F0 H₀ I σ H _ R fun v H1 R1 k1 r1=>?_;obtain ⟨s,e,qs⟩:=gM hf;have hi:i < e1.length:=(Js.mp e).1;have ev:∃ a,v=.ref a:=let ⟨a,e,_⟩:=r1;⟨a,e⟩
   obtain ⟨a,rfl⟩:=ev;have r2:=r1.forget i (some (.ref a)) (fun s' h=>by rw [e] at h;cases h;exact qs);have R2:=Rel.Hu (i:=i) (JK hi) r2;rw [KR,KR] at R2;exact q _ H1 R2 (k1.s.trans (r8 e qs ⟨fun _=>nofun,fun _=>nofun⟩))
  ·cases h
 ·cases h
theorem l4:∀ {is:List Nat} {ds:List PyData} {vs:List V} {env env':En} {σ:St} {Q:St->Hp->Prop},eK env is ds=some env'->Rel K F0 H₀ I env σ H->DmL K (FF F0 env σ) H ds vs->(∀ σ',Rel K F0 H₀ I env' σ' H->KpS env σ env' σ'->Q σ' H)->gNs is vs σ H Q
 | [],[],vs,env,env',σ,Q,h,R,hd,q=>by
  cases h;exact ⟨hd,q σ R (KpS.refl _ _)⟩
 | [],d :: ds,vs,env,env',σ,Q,h,R,hd,q=>by cases h
 | i :: is,[],vs,env,env',σ,Q,h,R,hd,q=>by cases h
 | i :: is,d :: ds,vs,env,env',σ,Q,h,R,hd,q=>by
  unfold eK at h;split at h
  ·rename_i hf;obtain ⟨v,r,rfl,h1,h2⟩:=hd;obtain ⟨R1,k1⟩:=R.Fu hf h1;obtain ⟨s,e,qs⟩:=gM hf;refine ⟨v,r,rfl,?_⟩;refine l4 h R1 (h2.mono fun b z=>?_) fun σ' R' k'=>q σ' R' (k1.trans k');rcases z with z | ⟨j,c,e',s'⟩
   ·exact .inl z
   ·rcases get_set e' with ⟨_,y⟩ | ⟨n,e'⟩
    ·cases y
    ·rw [Ju n] at s';exact .inr ⟨j,c,e',s'⟩
  ·cases h
theorem yX {is:List Nat} {e:XE} (ie:SE K ga gd e):SS K ga gd (.Bk is e):=by
 intro env out h F0 H₀ I σ H D R q;simp only [dS] at h;split at h
 ·rename_i rv e1 h1;split at h
  ·rename_i ds hv;split at h
   ·rename_i e2 hset;cases h;refine ie _ _ _ h1 F0 H₀ I σ H _ R fun v H1 R1 k1 r1=>?_;have a1:=r1.av;rw [hv] at a1;obtain ⟨a,xs,rfl,l,z,r⟩:=(show Dm K (FF F0 e1 σ) H1 (.tuple ds) v from a1);have hlen:∀ {is:List Nat} {ds:List PyData} {e e':En},eK e is ds=some e'->is.length=ds.length:=by
     intro is;induction is with
     | nil=>intro ds e e' h;cases ds with
      | nil=>rfl
      | cons _ _=>cases h
     | cons i is ih=>intro ds e e' h;cases ds with
      | nil=>cases h
      | cons d ds =>
       unfold eK at h;split at h
       ·rw [J2,J2,ih h]
       ·cases h
    exact ⟨a,xs,rfl,l,by rw [r.len,hlen hset],l4 hset R1 r fun σ' R' k'=>q σ' H1 R' (k1.s.trans k')⟩
   ·cases h
  ·cases h
 ·cases h
theorem zr {e:XE} (ie:SE K ga gd e):SS K ga gd (.drop e):=by
 intro env out h F0 H₀ I σ H D R q;simp only [dS] at h;split at h
 ·rename_i rv e1 h1;cases h;exact ie _ _ _ h1 F0 H₀ I σ H _ R fun v H1 R1 k1 r1=>q σ H1 R1 k1.s
 ·cases h
theorem Bl {e:XE} (ie:SE K ga gd e):SS K ga gd (.ret e):=by
 intro env out h F0 H₀ I σ H D R q;simp only [dS] at h;split at h
 ·rename_i rv e1 h1;cases h;exact ie _ _ _ h1 F0 H₀ I σ H _ R fun v H1 R1 k1 r1=>q v σ H1 R1 k1.s r1
 ·cases h
theorem Bg {c:XT} {a b:XS} (ic:ST K ga gd c) (ia:SS K ga gd a) (ib:SS K ga gd b):SS K ga gd (.ifs c a b):=by
 intro env out h F0 H₀ I σ H D R q;simp only [dS] at h;split at h
 ·rename_i e1 h1;refine ic _ _ _ h1 F0 H₀ I σ H _ R fun H1 R1 k1=>?_;rw [JB rfl];exact ia _ _ h F0 H₀ I σ H1 D R1 (q.from k1.s)
 ·rename_i e1 h1;refine ic _ _ _ h1 F0 H₀ I σ H _ R fun H1 R1 k1=>?_;rw [Jz (by decide)];exact ib _ _ h F0 H₀ I σ H1 D R1 (q.from k1.s)
 ·cases h
theorem z8 {m:vT} {i:Nat} {k e:XE} (ik:SE K ga gd k) (ie:SE K ga gd e):SS K ga gd (.sto m i k e):=by
 intro env out h F0 H₀ I σ H D R q;simp only [dS] at h;split at h
 ·rename_i rv e1 h1;split at h
  ·rename_i x hv;split at h
   ·rename_i d0 hm0;split at h
    ·rename_i rk e2 h2;split at h
     ·rename_i dk d hvk hm;split at h
      ·rename_i d' hf;cases h;refine ie _ _ _ h1 F0 H₀ I σ H _ R fun v H1 R1 k1 r1=>?_;obtain ⟨_,a,s,_⟩:=R1.cH hm0;refine ⟨.ref a,s,?_⟩;refine ik _ _ _ h2 F0 _ _ σ H1 _ R1.rebase fun u H2 S2 k2 r2=>?_;have R2:=R1.aW S2;have a1:=r1.av;rw [hv] at a1;have dx:=R1.m7 S2 k2 (show Dm K _ H1 x v from a1);obtain ⟨m2,a',s',f2,t2⟩:=R2.cH hm;rw [s] at s';cases s';refine m.ok K _ H2 d a dk x u v d' _ hf f2 t2 (r2.av.vw R2 hvk) dx fun H3 hk ht=>?_;exact q σ H3 (R2.Hy hm s hk ht) ((k1.trans k2).trans (sO _ _ _)).s
      ·cases h
     ·cases h
    ·cases h
   ·cases h
  ·cases h
 ·cases h
theorem E8 {n:Nat} {c:XT} {b:XS} (ic:ST K ga gd c) (ib:SS K ga gd b):SS K ga gd (.wh n c b):=by
 intro env out h F0 H₀ I σ H D R q;simp only [dS] at h;refine ⟨fun m σ' H'=>∃ env',whL (dT gd c) (dS gd b) m env'=some out/\Rel K F0 H₀ I env' σ' H'/\KpS env σ env' σ',⟨n,env,h,R,KpS.refl _ _⟩,?_⟩;rintro m σ' H' ⟨env',hw,R',k'⟩;cases m with
 | zero=>cases hw
 | succ m =>
  unfold whL at hw;split at hw
  ·rename_i e1 h1;refine ic _ _ _ h1 F0 H₀ I σ' H' _ R' fun H2 R2 k2=>?_;rw [JB rfl];refine ⟨fun σ3 H3=>∃ env3,whL (dT gd c) (dS gd b) m env3=some out/\Rel K F0 H₀ I env3 σ3 H3/\KpS env σ env3 σ3,fun σ3 H3 z=>⟨m,Lr _,z⟩,?_⟩;split at hw
   ·rename_i e hb;exact ib _ _ hb F0 H₀ I σ' H2 _ R2 fun σ3 H3 R3 k3=>⟨e,hw,R3,(k'.trans k2.s).trans k3⟩
   ·rename_i e hb;exact ib _ _ hb F0 H₀ I σ' H2 _ R2 fun σ3 H3 R3 k3=>⟨e,hw,R3,(k'.trans k2.s).trans k3⟩
   ·rename_i e hb;cases hw;exact ib _ _ hb F0 H₀ I σ' H2 _ R2 fun σ3 H3 R3 k3=>q σ3 H3 R3 ((k'.trans k2.s).trans k3)
   ·rename_i r e hb;cases hw;exact ib _ _ hb F0 H₀ I σ' H2 _ R2 fun v σ3 H3 R3 k3 r3=>q v σ3 H3 R3 ((k'.trans k2.s).trans k3) r3
   ·cases hw
  ·rename_i e1 h1;cases hw;refine ic _ _ _ h1 F0 H₀ I σ' H' _ R' fun H2 R2 k2=>?_;rw [Jz (by decide)];exact q σ' H2 R2 (k'.trans k2.s)
  ·cases hw
end
open PySem
section
variable {K:Fg} {F F' I I' F0:Addr->Prop} {H H' H₀ H1:Hp} {env env' e1:En} {σ σ':St} {ga:Nat->V} {gd:List PyData}
theorem Rel.E5 (R:Rel K F0 H₀ I env σ H) (h:∀ b,I b->I' b):Rel K F0 H₀ I' env σ H :=
 ⟨R.len,R.dat,fun i d e=>let ⟨a,s,n,w,t⟩:=R.own i d e;⟨a,s,n,w.imp id (h _),t⟩,fun i d e=>let ⟨a,s,n,w,t⟩:=R.ino i d e;⟨a,s,n,h _ w,t⟩,R.ro,R.sep,R.dom,fun b o e n=>R.cL b o e fun z=>n (h _ z)⟩
theorem Rel.eqF {F1:Addr->Prop} (R:Rel K F0 H₀ I env σ H) (h:∀ b,F0 b↔F1 b):Rel K F1 H₀ I env σ H:=by
 have:F0=F1:=funext fun b=>propext (h b);exact this▸R
theorem Rel.Gu (R:Rel K F0 H₀ I env σ H) {i:Nat} {d:PyData} {a:Addr} (hu:env[i]?=some .un) (s:σ[i]?=some (some (.ref a))) (h:d4 K (FF F0 env σ) (IA env σ) H d a):Rel K F0 H₀ I (env.set i (.ro d)) σ H:=by
 have hi:i < env.length:=(Js.mp hu).1;have eF:FF F0 (env.set i (.ro d)) σ=FF F0 env σ:=by
  have:=iY (F0:=F0) (σ:=σ) (s:=.ro d) (x:=some (.ref a)) hu (fun _=>nofun)
  rwa [set_same s] at this
 have eI:IA (env.set i (.ro d)) σ=IA env σ:=by
  have:=rC (σ:=σ) (s:=.ro d) (x:=some (.ref a)) hu (fun _=>⟨nofun,nofun⟩)
  rwa [set_same s] at this
 have mm:∀ j,mu (env.set i (.ro d)) j->mu env j:=fun j h=>by
  obtain ⟨c,e | e⟩:=h
  ·rcases get_set e with ⟨_,z⟩ | ⟨n,e⟩
   ·cases z
   ·exact ⟨c,.inl e⟩
  ·rcases get_set e with ⟨_,z⟩ | ⟨n,e⟩
   ·cases z
   ·exact ⟨c,.inr e⟩
 refine ⟨by rw [J8];exact R.len,fun j c e=>?_,fun j c e=>?_,fun j c e=>?_,fun j c e=>?_,fun j k b h1 h2 h3 h4=>R.sep j k b (mm j h1) (mm k h2) h3 h4,R.dom,R.cL⟩
 ·rw [eF];rcases get_set e with ⟨_,z⟩ | ⟨n,e⟩
  ·cases z
  exact R.dat j c e
 ·rw [eF];rcases get_set e with ⟨_,z⟩ | ⟨n,e⟩
  ·cases z
  exact R.own j c e
 ·rw [eF];rcases get_set e with ⟨_,z⟩ | ⟨n,e⟩
  ·cases z
  exact R.ino j c e
 ·rw [eF,eI];rcases get_set e with ⟨z,y⟩ | ⟨n,e⟩
  ·subst z;cases y;exact ⟨a,s,h⟩
  exact R.ro j c e
theorem Rel.IJ (R:Rel K F0 H₀ I env σ H) {i:Nat} {d:PyData} {a:Addr} (hu:env[i]?=some .un) (s:σ[i]?=some (some (.ref a))) (h:Top K (FF F0 env σ) H d a) (hF:F0 a) (hI:I a) (na:∀ j,mu env j->σ[j]?≠some (some (.ref a)))
  (hro:∀ (j:Nat) (c:PyData),env[j]?=some (.ro c)->∃ b,σ[j]?=some (some (.ref b))/\d4 K (FF F0 env σ) (fun b=>IA env σ b\/b=a) H c b):Rel K F0 H₀ I (env.set i (.ino d)) σ H:=by
 have hi:i < env.length:=(Js.mp hu).1;have eF:FF F0 (env.set i (.ino d)) σ=FF F0 env σ:=by
  have:=iY (F0:=F0) (σ:=σ) (s:=.ino d) (x:=some (.ref a)) hu (fun _=>nofun)
  rwa [set_same s] at this
 have mm:∀ j,mu (env.set i (.ino d)) j->i=j\/(mu env j/\i≠j):=fun j h=>by
  obtain ⟨c,e | e⟩:=h
  ·rcases get_set e with ⟨z,_⟩ | ⟨n,e⟩
   ·exact .inl z
   ·exact .inr ⟨⟨c,.inl e⟩,n⟩
  ·rcases get_set e with ⟨z,_⟩ | ⟨n,e⟩
   ·exact .inl z
   ·exact .inr ⟨⟨c,.inr e⟩,n⟩
 have eI:∀ b,IA (env.set i (.ino d)) σ b->IA env σ b\/b=a:=by
  rintro b ⟨j,m,q⟩;rcases mm j m with z | ⟨m',n⟩
  ·subst z;rw [s] at q;cases q;exact .inr rfl
  ·exact .inl ⟨j,m',q⟩
 refine ⟨by rw [J8];exact R.len,fun j c e=>?_,fun j c e=>?_,fun j c e=>?_,fun j c e=>?_,fun j k b h1 h2 h3 h4=>?_,R.dom,R.cL⟩
 ·rw [eF];rcases get_set e with ⟨_,z⟩ | ⟨n,e⟩
  ·cases z
  exact R.dat j c e
 ·rw [eF];rcases get_set e with ⟨_,z⟩ | ⟨n,e⟩
  ·cases z
  exact R.own j c e
 ·rw [eF];rcases get_set e with ⟨z,y⟩ | ⟨n,e⟩
  ·subst z;cases y;exact ⟨a,s,hF,hI,h⟩
  exact R.ino j c e
 ·rw [eF];rcases get_set e with ⟨_,z⟩ | ⟨n,e⟩
  ·cases z
  obtain ⟨b,q,r⟩:=hro j c e;exact ⟨b,q,r.pr Pr.refl (fun _ z=>z) eI fun _ _ z _=>z⟩
 ·rcases mm j h1 with z1 | ⟨m1,n1⟩
  ·rcases mm k h2 with z2 | ⟨m2,n2⟩
   ·rw [<- z1,<-z2]
   ·rw [<- z1,s] at h3;cases h3;exact absurd h4 (na k m2)
  ·rcases mm k h2 with z2 | ⟨m2,n2⟩
   ·rw [<- z2,s] at h4;cases h4;exact absurd h3 (na j m1)
   ·exact R.sep j k b m1 m2 h3 h4
structure Lk (K:Fg) (F0:Addr->Prop) (H₀:Hp) (I:Addr->Prop) (e1:En) (σ:St) (H1:Hp) (lock:Option Nat) (F1:Addr->Prop):Prop where
 rel:Rel K F1 H₀ I (bq e1 lock) σ H1
 ff:FF F1 (bq e1 lock) σ=FF F0 e1 σ
 ia:∀ b,IA (bq e1 lock) σ b->IA e1 σ b/\∀ i,lock=some i->mu e1 i->σ[i]?≠some (some (.ref b))
 un:∀ env' σ' H',Rel K F1 H1 (IA (bq e1 lock) σ) env' σ' H'->KpS (bq e1 lock) σ env' σ'->Rel K F0 H₀ I (ak e1 lock env') σ' H'/\KpS e1 σ (ak e1 lock env') σ'/\FF F0 (ak e1 lock env') σ'=FF F1 env' σ'
theorem Lk.rg (R:Rel K F0 H₀ I e1 σ H1) {lock:Option Nat} (h1:bq e1 lock=e1) (h2:∀ env',ak e1 lock env'=env') (h3:∀ i,lock=some i->¬mu e1 i):Lk K F0 H₀ I e1 σ H1 lock F0 :=
 ⟨by rw [h1];exact R,by rw [h1],fun b hb=>by rw [h1] at hb;exact ⟨hb,fun i hi m=>absurd m (h3 i hi)⟩,fun env' σ' H' S k=>by rw [h1] at S k;rw [h2];exact ⟨R.aW S,k,rfl⟩⟩
theorem Lk.CU (R:Rel K F0 H₀ I e1 σ H1) {i:Nat} {d:PyData} {a:Addr} (e:e1[i]?=some (.own d)\/e1[i]?=some (.ino d)) (s:σ[i]?=some (some (.ref a))):Lk K F0 H₀ I e1 σ H1 (some i) (fun b=>F0 b\/b=a):=by
 have hi:i < e1.length:=by rcases e with e | e <;> exact (Js.mp e).1
 have mi:mu e1 i:=⟨d,e⟩;have el:bq e1 (some i)=e1.set i (.ro d):=by simp only [bq];rcases e with e | e <;> rw [e]
 have hm:aC e1 i=some d:=by unfold aC;rcases e with e | e <;> rw [e]
 obtain ⟨_,a',s',fa,ta⟩:=R.cH hm;rw [s] at s';cases s';have hu:(e1.set i .un)[i]?=some .un:=JK hi;have mmu:∀ j,mu (e1.set i .un) j->mu e1 j/\i≠j:=fun j h=>by
  obtain ⟨c,e | e⟩:=h
  ·rcases get_set e with ⟨_,z⟩ | ⟨n,e⟩
   ·cases z
   ·exact ⟨⟨c,.inl e⟩,n⟩
  ·rcases get_set e with ⟨_,z⟩ | ⟨n,e⟩
   ·cases z
   ·exact ⟨⟨c,.inr e⟩,n⟩
 have nIA:¬IA (e1.set i .un) σ a:=fun ⟨j,m,q⟩=>(mmu j m).2 (R.sep i j a mi (mmu j m).1 s q);have eFu:FF (fun b=>F0 b\/b=a) (e1.set i .un) σ=FF F0 e1 σ:=by
  funext b;apply propext;constructor
  ·rintro ((h | h) | ⟨j,c,e',q⟩)
   ·exact .inl h
   ·exact h▸fa
   ·rcases get_set e' with ⟨_,z⟩ | ⟨n,e'⟩
    ·cases z
    ·exact .inr ⟨j,c,e',q⟩
  ·rintro (h | ⟨j,c,e',q⟩)
   ·exact .inl (.inl h)
   ·by_cases n:i=j
    ·subst n;rw [s] at q;cases q;exact .inl (.inr rfl)
    ·exact .inr ⟨j,c,by rw [Ju n];exact e',q⟩
 have Ru:Rel K (fun b=>F0 b\/b=a) H₀ I (e1.set i .un) σ H1:=by
  rcases e with e | e
  ·obtain ⟨a2,s2,r⟩:=R.take e;rw [s] at s2;cases s2;obtain ⟨a3,ea,R',_⟩:=r;cases ea;exact R'
  ·have:=R.forget i (some (.ref a));rw [set_same s] at this;obtain ⟨a2,s2,f2,_⟩:=R.ino i d e;rw [s] at s2;cases s2;exact this.eqF fun b=>⟨.inl,fun z=>z.elim id fun z=>z▸f2⟩
 have Rl:Rel K (fun b=>F0 b\/b=a) H₀ I (e1.set i (.ro d)) σ H1:=by
  have:=Ru.Gu (d:=d) hu s (by rw [eFu];exact ta.ro nIA)
  rwa [KR] at this
 have eFl:FF (fun b=>F0 b\/b=a) (e1.set i (.ro d)) σ=FF F0 e1 σ:=by
  rw [<- eFu];have:=iY (F0:=fun b=>F0 b\/b=a) (σ:=σ) (s:=.ro d) (x:=some (.ref a)) hu (fun _=>nofun)
  rwa [set_same s,KR] at this
 have eIl:IA (e1.set i (.ro d)) σ=IA (e1.set i .un) σ:=by
  have:=rC (σ:=σ) (s:=.ro d) (x:=some (.ref a)) hu (fun _=>⟨nofun,nofun⟩)
  rwa [set_same s,KR] at this
 have iaSub:∀ b,IA (e1.set i (.ro d)) σ b->IA e1 σ b:=fun b hb=>by rw [eIl] at hb;obtain ⟨j,m,q⟩:=hb;exact ⟨j,(mmu j m).1,q⟩
 refine ⟨by rw [el];exact Rl,by rw [el];exact eFl,fun b hb=>?_,fun env' σ' H' S k=>?_⟩
 ·rw [el,eIl] at hb;obtain ⟨j,m,q⟩:=hb;refine ⟨⟨j,(mmu j m).1,q⟩,fun i' hi' mi' si'=>?_⟩;cases hi';exact (mmu j m).2 (R.sep i j b mi (mmu j m).1 si' q)
 ·rw [el] at S k;have hro:(e1.set i (.ro d))[i]?=some (.ro d):=JK hi;obtain ⟨si,he,hv,hs⟩:=k.2 i _ hro;have hv:si=.ro d:=hv;subst hv;have hs:=(hs trivial).trans s;have hi':i < env'.length:=(Js.mp he).1;have na1:¬IA (e1.set i (.ro d)) σ a:=by rw [eIl];exact nIA
  have keepA:∀ o,H1 a=some o->H' a=some o:=fun o z=>S.cL a o z na1;have fSub:∀ b,FF (fun b=>F0 b\/b=a) env' σ' b->(FF F0 e1 σ b\/H1 b=none):=fun b z=>by
   rcases z with (z | z) | ⟨j,c,e',q⟩
   ·exact .inl (.inl z)
   ·exact .inl (z▸fa)
   ·obtain ⟨b',q',_,w,_⟩:=S.own j c e';rw [q] at q';cases q';rcases w with w | w
    ·exact .inr w
    ·exact .inl (R.ia (iaSub b w))
  have pF:Pr (fun b=>FF F0 e1 σ b\/H1 b=none) H1 H':=(R.oz fun b o z n=>S.cL b o z fun y=>n (iaSub b y)).HQ fun b z=>.inl z;have tA:Top K (FF (fun b=>F0 b\/b=a) env' σ') H' d a:=ta.aM.pr pF fSub keepA;have iaEnd:∀ b,IA env' σ' b->(IA e1 σ b\/H1 b=none):=fun b z=>by
   rcases S.iaI z with w | w
   ·exact .inr w
   ·exact .inl (iaSub b w)
  have roOld:∀ (j:Nat) (c:PyData),env'[j]?=some (.ro c)->i≠j->∃ b,σ'[j]?=some (some (.ref b))/\d4 K (FF (fun b=>F0 b\/b=a) env' σ') (fun b=>IA env' σ' b\/b=a) H' c b:=fun j c e' n=>by
   have hj:j < e1.length:=by
    have:=(Js.mp e').1;rw [k.1,J8] at this;exact this
   have e0:(e1.set i (.ro d))[j]?=some e1[j]:=by rw [Ju n];exact Jq hj
   obtain ⟨s',h',v',w'⟩:=k.2 j _ e0;rw [e'] at h';cases h';have es:e1[j]=.ro c:=by
    cases hh:e1[j] with
    | ino _=>rw [hh] at v';obtain ⟨_,z⟩:=v';cases z
    | ro c'=>rw [hh] at v';have:Sl.ro c=.ro c':=v';rw [this]
    | un=>rw [hh] at v';exact absurd rfl (v'.2 c)
    | dat _=>rw [hh] at v';exact absurd rfl (v'.2 c)
    | own _=>rw [hh] at v';exact absurd rfl (v'.2 c)
   have er:e1[j]?=some (.ro c):=by rw [Jq hj,es]
   obtain ⟨b,q,r⟩:=R.ro j c er;rw [es] at w';refine ⟨b,(w' trivial).trans q,r.aM.pr pF fSub (fun b z=>?_) fun b o z n=>S.cL b o z fun y=>n (.inl (iaSub b y))⟩;rcases z with z | z
   ·exact iaEnd b z
   ·exact .inl (z▸⟨i,mi,s⟩)
  have inoNe:∀ (j:Nat) (c:PyData),env'[j]?=some (.ino c)->σ'[j]?≠some (some (.ref a)):=fun j c e' q=>by
   have n:i≠j:=fun z=>by subst z;rw [he] at e';cases e'
   have hj:j < e1.length:=by
    have:=(Js.mp e').1;rw [k.1,J8] at this;exact this
   have e0:(e1.set i (.ro d))[j]?=some e1[j]:=by rw [Ju n];exact Jq hj
   obtain ⟨s',h',v',w'⟩:=k.2 j _ e0;rw [e'] at h';cases h';have es:∃ c',e1[j]=.ino c':=by
    cases hh:e1[j] with
    | ino c'=>exact ⟨c',rfl⟩
    | ro c'=>rw [hh] at v';cases v'
    | un=>rw [hh] at v';exact absurd rfl (v'.1 c)
    | dat _=>rw [hh] at v';exact absurd rfl (v'.1 c)
    | own _=>rw [hh] at v';exact absurd rfl (v'.1 c)
   obtain ⟨c',es⟩:=es;have er:e1[j]?=some (.ino c'):=by rw [Jq hj,es]
   rw [es] at w';rw [w' trivial] at q;exact n (R.sep i j a mi ⟨c',.inr er⟩ s q)
  have Sf:Rel K (fun b=>F0 b\/b=a) H1 (IA e1 σ) (env'.set i .un) σ' H':=by
   have:=S.forget i (some (.ref a));rw [set_same hs] at this;exact this.E5 iaSub
  have hu':(env'.set i .un)[i]?=some .un:=JK hi';have eFe:FF (fun b=>F0 b\/b=a) (env'.set i .un) σ'=FF (fun b=>F0 b\/b=a) env' σ':=by
   funext b;apply propext;constructor
   ·rintro (h | ⟨j,c,e',q⟩)
    ·exact .inl h
    ·rcases get_set e' with ⟨_,z⟩ | ⟨n,e'⟩
     ·cases z
     ·exact .inr ⟨j,c,e',q⟩
   ·rintro (h | ⟨j,c,e',q⟩)
    ·exact .inl h
    ·have n:i≠j:=fun z=>by subst z;rw [he] at e';cases e'
     exact .inr ⟨j,c,by rw [Ju n];exact e',q⟩
  have iaE:∀ b,IA (env'.set i .un) σ' b->IA env' σ' b:=by
   rintro b ⟨j,⟨c,m⟩,q⟩;refine ⟨j,⟨c,?_⟩,q⟩;rcases m with m | m
   ·rcases get_set m with ⟨_,z⟩ | ⟨n,m⟩
    ·cases z
    ·exact .inl m
   ·rcases get_set m with ⟨_,z⟩ | ⟨n,m⟩
    ·cases z
    ·exact .inr m
  have kEnd:∀ t:Sl,Evs (e1[i]) t->KpS e1 σ (env'.set i t) σ':=fun t ht=>by
   refine ⟨by rw [J8,k.1,J8],fun j s0 e0=>?_⟩;by_cases z:i=j
   ·subst z;rw [Jq hi] at e0;cases e0;exact ⟨t,JK hi',ht,fun _=>hs.trans s.symm⟩
   ·obtain ⟨s',h',v',w'⟩:=k.2 j s0 (by rw [Ju z];exact e0);exact ⟨s',by rw [Ju z];exact h',v',w'⟩
  rcases e with e | e
  ·have eu:ak e1 (some i) env'=env'.set i (.own d):=by simp only [ak];rw [e,he]
   obtain ⟨a2,s2,nF,_⟩:=R.own i d e;rw [s] at s2;cases s2;have nFF:¬FF F0 (env'.set i .un) σ' a:=by
    rintro (h | ⟨j,c,e',q⟩)
    ·exact nF h
    ·obtain ⟨b',q',n',_⟩:=Sf.own j c e';rw [q] at q';cases q';exact n' (.inr rfl)
   have rv:dH K F0 H1 (IA e1 σ) (env'.set i .un) σ' H' (.frs d) (.ref a):=by
    refine ⟨a,rfl,Sf,?_,.inr ⟨i,mi,s⟩,nFF,fun j c e' q=>?_,fun j c e'=>?_⟩
    ·rw [<- d6,eFe];exact tA
    ·rcases get_set e' with ⟨_,z⟩ | ⟨n,e'⟩
     ·cases z
     ·exact inoNe j c e' q
    ·rcases get_set e' with ⟨_,z⟩ | ⟨n,e'⟩
     ·cases z
     ·obtain ⟨b,q,r⟩:=roOld j c e' n;refine ⟨b,q,?_⟩;rw [<- d6,eFe];exact r.pr Pr.refl (fun _ z=>z) (fun b z=>z.imp (iaE b) id) fun _ _ z _=>z
   have Rn:=Rel.Hu hu' rv;rw [KR,set_same hs] at Rn;rw [eu];refine ⟨R.aW Rn,kEnd _ ?_,?_⟩
   ·have:e1[i]=.own d:=by have:=Jq hi;rw [e] at this;exact (Km this).symm
    rw [this];exact ⟨fun _=>nofun,fun _=>nofun⟩
   ·rw [<- eFe,d6];funext b;apply propext;constructor
    ·rintro (h | ⟨j,c,e',q⟩)
     ·exact .inl (.inl h)
     ·rcases get_set e' with ⟨z,_⟩ | ⟨n,e'⟩
      ·subst z;rw [hs] at q;cases q;exact .inr rfl
      ·exact .inl (.inr ⟨j,c,by rw [Ju n];exact e',q⟩)
    ·rintro ((h | ⟨j,c,e',q⟩) | rfl)
     ·exact .inl h
     ·rcases get_set e' with ⟨_,z⟩ | ⟨n,e'⟩
      ·cases z
      ·exact .inr ⟨j,c,by rw [Ju n];exact e',q⟩
     ·exact .inr ⟨i,d,JK hi',hs⟩
  ·have eu:ak e1 (some i) env'=env'.set i (.ino d):=by simp only [ak];rw [e,he]
   obtain ⟨a2,s2,f2,i2,_⟩:=R.ino i d e;rw [s] at s2;cases s2;have Sf2:Rel K F0 H1 (IA e1 σ) (env'.set i .un) σ' H':=Sf.eqF fun b=>⟨fun z=>z.elim id fun z=>z▸f2,.inl⟩;have eF0:FF F0 (env'.set i .un) σ'=FF (fun b=>F0 b\/b=a) env' σ':=by
    rw [<- eFe];have:(fun b=>F0 b\/b=a)=F0:=funext fun b=>propext ⟨fun z=>z.elim id fun z=>z▸f2,.inl⟩;rw [this]
   have Rn:=Sf2.IJ (d:=d) hu' hs (by rw [eF0];exact tA) f2 ⟨i,mi,s⟩ (fun j m q=>?_) (fun j c e'=>?_)
   ·rw [KR] at Rn;rw [eu];refine ⟨R.aW Rn,kEnd _ ?_,?_⟩
    ·have:e1[i]=.ino d:=by have:=Jq hi;rw [e] at this;exact (Km this).symm
     rw [this];exact ⟨d,rfl⟩
    ·rw [<- eF0];have:=iY (F0:=F0) (σ:=σ') (s:=.ino d) (x:=some (.ref a)) hu' (fun _=>nofun)
     rwa [set_same hs,KR] at this
   ·obtain ⟨c,m | m⟩:=m
    ·obtain ⟨b',q',n',_⟩:=Sf.own j c m;rw [q] at q';cases q';exact n' (.inr rfl)
    ·rcases get_set m with ⟨_,z⟩ | ⟨n,m⟩
     ·cases z
     ·exact inoNe j c m q
   ·rcases get_set e' with ⟨_,z⟩ | ⟨n,e'⟩
    ·cases z
    ·obtain ⟨b,q,r⟩:=roOld j c e' n;refine ⟨b,q,?_⟩;rw [eF0];exact r.pr Pr.refl (fun _ z=>z) (fun b z=>z.imp (iaE b) id) fun _ _ z _=>z
theorem Lk.of (R:Rel K F0 H₀ I e1 σ H1) (lock:Option Nat):∃ F1,Lk K F0 H₀ I e1 σ H1 lock F1/\(lkd e1 lock=false->F1=F0/\bq e1 lock=e1/\∀ env',ak e1 lock env'=env'):=by
 cases lock with
 | none=>exact ⟨F0,Lk.rg R rfl (fun _=>rfl) (fun i z=>by cases z),fun _=>⟨rfl,rfl,fun _=>rfl⟩⟩
 | some i =>
  cases e:e1[i]? with
  | none =>
   have h1:bq e1 (some i)=e1:=by simp only [bq];rw [e]
   have h2:∀ env',ak e1 (some i) env'=env':=fun env'=>by simp only [ak];rw [e]
   exact ⟨F0,Lk.rg R h1 h2 (fun j z m=>by cases z;obtain ⟨d,m | m⟩:=m <;> (rw [e] at m;cases m)),fun _=>⟨rfl,h1,h2⟩⟩
  | some s =>
   cases s with
   | own d =>
    obtain ⟨a,q,_⟩:=R.own i d e;exact ⟨_,Lk.CU R (.inl e) q,fun z=>by simp only [lkd] at z;rw [e] at z;cases z⟩
   | ino d =>
    obtain ⟨a,q,_⟩:=R.ino i d e;exact ⟨_,Lk.CU R (.inr e) q,fun z=>by simp only [lkd] at z;rw [e] at z;cases z⟩
   | un =>
    have h1:bq e1 (some i)=e1:=by simp only [bq];rw [e]
    have h2:∀ env',ak e1 (some i) env'=env':=fun env'=>by simp only [ak];rw [e]
    exact ⟨F0,Lk.rg R h1 h2 (fun j z m=>by cases z;obtain ⟨d,m | m⟩:=m <;> (rw [e] at m;cases m)),fun _=>⟨rfl,h1,h2⟩⟩
   | dat d =>
    have h1:bq e1 (some i)=e1:=by simp only [bq];rw [e]
    have h2:∀ env',ak e1 (some i) env'=env':=fun env'=>by simp only [ak];rw [e]
    exact ⟨F0,Lk.rg R h1 h2 (fun j z m=>by cases z;obtain ⟨d,m | m⟩:=m <;> (rw [e] at m;cases m)),fun _=>⟨rfl,h1,h2⟩⟩
   | ro d =>
    have h1:bq e1 (some i)=e1:=by simp only [bq];rw [e]
    have h2:∀ env',ak e1 (some i) env'=env':=fun env'=>by simp only [ak];rw [e]
    exact ⟨F0,Lk.rg R h1 h2 (fun j z m=>by cases z;obtain ⟨d,m | m⟩:=m <;> (rw [e] at m;cases m)),fun _=>⟨rfl,h1,h2⟩⟩
theorem rH {b:PyData->En->Option Out} {ds:List PyData} {out:Out} {J:It} {F1 I1:Addr->Prop} {el:En} {g:TG} {tb:TS} {D:Ends} (R:Rel K F1 H1 I1 el σ H1) (hI:I1=IA el σ) (hit:uN K (FF F1 el σ) I1 H1 J ds) (h:forL b ds el=some out)
  (turn:∀ d o env' σ' H' x,b d env'=some o->Rel K F1 H1 I1 env' σ' H'->KpS el σ env' σ'->Dm K (FF F1 env' σ') H' d x->∀ D':Ends,lF K F1 H1 I1 env' σ' D' o->g x σ' H' fun σ2 H2=>tb D' σ2 H2)
  (q:lF K F1 H1 I1 el σ D out) :
  ∃ W:Nat->Nat->St->Hp->Prop,(∃ m,W 0 m σ H1)/\∀ i m σ H,W i m σ H ->
   (J.stop i H/\D.nx σ H)\/(J.go i H/\∃ N:St->Hp->Prop,(∀ σ' H',N σ' H'->∃ m',m' < m/\W (i+1) m' σ' H')/\∀ x H',J.yld i H x H'->g x σ H' fun σ2 H2=>tb { D with nx:=N,ct:=N,bk:=D.nx } σ2 H2):=by
 subst hI;obtain ⟨hvl,hturn⟩:=hit;refine ⟨fun i m σ' H'=>m=ds.length - i/\i<=ds.length/\∃ env',forL b (ds.drop i) env'=some out/\Rel K F1 H1 (IA el σ) env' σ' H'/\KpS el σ env' σ',⟨ds.length,rfl,KA _,el,h,R,KpS.refl _ _⟩,?_⟩;rintro i m σ' H' ⟨rfl,hi,env',hf,R',k'⟩;have hkept:∀ b o,H1 b=some o->¬IA el σ b->H' b=some o:=R'.cL;by_cases hlt:i < ds.length
 ·right;obtain ⟨go,yld⟩:=(hturn H' hkept i).1 (by omega);refine ⟨go,fun σ3 H3=>(ds.length - (i+1))=ds.length - (i+1)/\i+1<=ds.length/\∃ env',forL b (ds.drop (i+1)) env'=some out/\Rel K F1 H1 (IA el σ) env' σ3 H3/\KpS el σ env' σ3,fun σ3 H3 z=>⟨ds.length - (i+1),by omega,z⟩,fun x H'' hx=>?_⟩;obtain ⟨d,hd,hy9⟩:=yld x H'' hx;have fSub:∀ b,FF F1 env' σ' b->(FF F1 el σ b\/H1 b=none):=fun b z=>by
   rcases z with z | ⟨j,c,e',s'⟩
   ·exact .inl (.inl z)
   ·obtain ⟨b',q',_,w,_⟩:=R'.own j c e';rw [s'] at q';cases q';exact w.elim .inr fun w=>.inl (R.ia w)
  obtain ⟨sm,hdx'⟩:=hy9.dm (F2:=FF F1 env' σ') fun d v h=>h.aM.pr ((R.oz hkept).HQ fun b z=>.inl z) fSub;have R':=R'.same sm;have ed:ds.drop i=d :: ds.drop (i+1):=by
   rw [KO hlt];obtain ⟨_,z⟩:=Js.mp hd;rw [z]
  rw [ed] at hf;unfold forL at hf;split at hf
  ·rename_i e hb;exact turn d _ env' σ' H'' x hb R' k' hdx' _ fun σ3 H3 R3 k3=>⟨rfl,by omega,e,hf,R3,k'.trans k3⟩
  ·rename_i e hb;exact turn d _ env' σ' H'' x hb R' k' hdx' _ fun σ3 H3 R3 k3=>⟨rfl,by omega,e,hf,R3,k'.trans k3⟩
  ·rename_i e hb;cases hf;exact turn d _ env' σ' H'' x hb R' k' hdx' _ fun σ3 H3 R3 k3=>q σ3 H3 R3 (k'.trans k3)
  ·rename_i r e hb;cases hf;exact turn d _ env' σ' H'' x hb R' k' hdx' _ fun v σ3 H3 R3 k3 r3=>q v σ3 H3 R3 (k'.trans k3) r3
  ·cases hf
 ·left;have e:i=ds.length:=by omega
  subst e;rw [List.drop_length] at hf;unfold forL at hf;cases hf;exact ⟨(hturn H' hkept _).2 (by omega),q σ' H' R' k'⟩
theorem dH.unl {rv:RV} {v:V} {F1:Addr->Prop} {e2:En} (h:dH K F1 H₀ I env σ H rv v) (hn:∀ d,rv≠.frs d) (eF:FF F0 e2 σ=FF F1 env σ) {H₁:Hp} {I₁:Addr->Prop}:dH K F0 H₁ I₁ e2 σ H rv v:=by
 cases rv with
 | dat d=>show Dm K _ H d v;rw [eF];exact h
 | bor i=>exact h
 | frs d=>exact absurd rfl (hn d)
theorem dH.Ha {rv:RV} {v:V} (h:dH K F0 H₀ I env σ H rv v):dH K F0 H₀ I env σ H (rv.soft true) v:=by
 cases rv with
 | dat d=>exact h
 | bor i=>exact h
 | frs d=>exact h.av
theorem dH.aW {rv:RV} {v:V} (R:Rel K F0 H₀ I env σ H) (h:dH K F0 H (IA env σ) env' σ' H' rv v):dH K F0 H₀ I env' σ' H' rv v:=by
 cases rv with
 | dat d=>exact h
 | bor i=>exact h
 | frs d =>
  obtain ⟨a,ea,S,t,w,nF,hi,hr⟩:=h;have S0:=R.aW (S.less hi);refine ⟨a,ea,⟨S.len,S.dat,fun i c e=>?_,fun i c e=>?_,S.ro,S.sep,S.dom,S0.cL⟩,t,R.oi w,nF,hi,hr⟩
  ·obtain ⟨b,s,n,w',t'⟩:=S.own i c e;exact ⟨b,s,n,R.oi w',t'⟩
  ·obtain ⟨b,s,n,w',t'⟩:=S.ino i c e;obtain ⟨b2,s2,_,i2,_⟩:=S0.ino i c e;rw [s] at s2;cases s2;exact ⟨b,s,n,i2,t'⟩
theorem Lk.out {lock:Option Nat} {F1:Addr->Prop} {D:Ends} {out:Out} (R1:Rel K F0 H₀ I e1 σ H1) (L:Lk K F0 H₀ I e1 σ H1 lock F1) (hno:lkd e1 lock=false->F1=F0/\bq e1 lock=e1/\∀ env',ak e1 lock env'=env')
  (q:lF K F0 H₀ I e1 σ D (out.map (lkd e1 lock) (ak e1 lock))):lF K F1 H1 (IA (bq e1 lock) σ) (bq e1 lock) σ D out:=by
 cases out with
 | nx e=>exact fun σ' H' R' k'=>let ⟨A,B,_⟩:=L.un e σ' H' R' k';q σ' H' A B
 | bk e=>exact fun σ' H' R' k'=>let ⟨A,B,_⟩:=L.un e σ' H' R' k';q σ' H' A B
 | ct e=>exact fun σ' H' R' k'=>let ⟨A,B,_⟩:=L.un e σ' H' R' k';q σ' H' A B
 | rt rv e =>
  intro v σ' H' R' k' r;obtain ⟨A,B,C⟩:=L.un e σ' H' R' k';refine q v σ' H' A B ?_;cases hl:lkd e1 lock with
  | true=>exact r.Ha.unl (fun d z=>by cases rv <;> cases z) C
  | false =>
   obtain ⟨rfl,h1,h2⟩:=hno hl;rw [h1] at r;rw [h2];have:rv.soft false=rv:=by cases rv <;> rfl
   rw [this];exact r.aW R1
theorem E3 {i:Nat} {it:XI} {b:XS} (ii:SI K ga gd it) (ib:SS K ga gd b):SS K ga gd (.fr i it b):=by
 intro env out h F0 H₀ I σ H D R q;simp only [dS] at h;split at h
 ·rename_i ds lock e1 h1;cases ho:forL (i3 i (dS gd b)) ds (bq e1 lock) with
  | none=>rw [ho] at h;cases h
  | some o =>
   rw [ho] at h;cases h;refine ii _ _ _ _ h1 F0 H₀ I σ H _ R fun J H1 R1 k1 _ hit=>?_;obtain ⟨F1,L,hno⟩:=Lk.of R1 lock;have Rb:=L.rel.rebase;refine rH Rb rfl ?_ ho ?_ (L.out R1 hno (q.from k1.s))
   ·rw [L.ff];obtain ⟨a2,a3⟩:=hit;exact ⟨a2,fun H' hk=>a3 H' fun b o e n=>hk b o e fun z=>n (L.ia b z)⟩
   ·intro d o env' σ' H' x hb R' k' hd D' hD;unfold i3 at hb;split at hb
    ·rename_i hf;obtain ⟨R2,k2⟩:=R'.Fu hf hd;exact ib _ _ hb _ _ _ _ H' D' R2 (hD.from k2)
    ·cases hb
 ·cases h
theorem CH {is:List Nat} {it:XI} {b:XS} (ii:SI K ga gd it) (ib:SS K ga gd b):SS K ga gd (.frT is it b):=by
 intro env out h F0 H₀ I σ H D R q;simp only [dS] at h;split at h
 ·rename_i ds lock e1 h1
  ·obtain ⟨o,ho,e0⟩:=J7.mp h;subst e0;refine ii _ _ _ _ h1 F0 H₀ I σ H _ R fun J H1 R1 k1 _ hit=>?_;obtain ⟨F1,L,hno⟩:=Lk.of R1 lock;have Rb:=L.rel.rebase;refine rH Rb rfl ?_ ho ?_ (L.out R1 hno (q.from k1.s))
   ·rw [L.ff];obtain ⟨a2,a3⟩:=hit;exact ⟨a2,fun H' hk=>a3 H' fun b o e n=>hk b o e fun z=>n (L.ia b z)⟩
   ·intro d o env' σ' H' x hb R' k' hd D' hD;unfold g7 at hb;split at hb
    ·rename_i xs;split at hb
     ·rename_i e2 hset;obtain ⟨a,vs,rfl,l,z,r⟩:=hd;have hlen:∀ {is:List Nat} {ds:List PyData} {e e':En},eK e is ds=some e'->is.length=ds.length:=by
       intro is;induction is with
       | nil=>intro ds e e' h;cases ds with
        | nil=>rfl
        | cons _ _=>cases h
       | cons i is ih=>intro ds e e' h;cases ds with
        | nil=>cases h
        | cons d ds =>
         unfold eK at h;split at h
         ·rw [J2,J2,ih h]
         ·cases h
      exact ⟨a,vs,rfl,l,by rw [r.len,hlen hset],l4 hset R' r fun σ2 R2 k2=>ib _ _ hb _ _ _ _ H' D' R2 (hD.from k2)⟩
     ·cases hb
    ·cases hb
 ·cases h
theorem sS (hg:∀ g d,gd[g]?=some d->∀ F H,Dm K F H d (ga g)):∀ s:XS,SS K ga gd s
 | .skip=>fun env out h F0 H₀ I σ H D R q=>by cases h;exact q σ H R (KpS.refl _ _)
 | .seq a b=>B8 (sS hg a) (sS hg b)
 | .bz i e=>yx (sE hg e) | .u0 i e=>xi (sE hg e) | .Bk is e=>yX (sE hg e) | .drop e=>zr (sE hg e) | .ret e=>Bl (sE hg e)
 | .DP=>fun env out h F0 H₀ I σ H D R q=>by cases h;exact q .non σ H R (KpS.refl _ _) rfl
 | .ifs c a b=>Bg (sT hg c) (sS hg a) (sS hg b)
 | .fr i it b=>E3 (sI hg it) (sS hg b) | .frT is it b=>CH (sI hg it) (sS hg b) | .wh n c b=>E8 (sT hg c) (sS hg b)
 | .brk=>fun env out h F0 H₀ I σ H D R q=>by cases h;exact q σ H R (KpS.refl _ _)
 | .cnt=>fun env out h F0 H₀ I σ H D R q=>by cases h;exact q σ H R (KpS.refl _ _)
 | .nev=>fun env out h F0 H₀ I σ H D R q=>by cases h
 | .sto m i k e=>z8 (sE hg k) (sE hg e)
end
open PySem
section
variable {K:Fg} {F F' G I I' F0:Addr->Prop} {H H' H₀ H1:Hp} {env env' e1:En} {σ σ':St} {ga:Nat->V} {gd:List PyData}
theorem bS:∀ {ms:List PM} {ds:List PyData} {n:Nat},ds.length=ms.length->ms.length<=n->(ah ms ds n).length=n
 | [],[],n,_,_=>by simp [ah]
 | [],_ :: _,n,h,_=>by cases h
 | _ :: _,[],n,h,_=>by cases h
 | m :: ms,d :: ds,n,h,hn=>by
  have ih:=bS (ms:=ms) (ds:=ds) (n:=n - 1) (by simpa using h) (by simp at hn;omega);simp at hn;cases m <;> (simp only [ah,J2,ih];omega)
theorem bw.len:∀ {ms:List PM} {ds:List PyData} {vs:List V} {is:List Addr},bw K G I H ms ds vs is->ds.length=ms.length/\vs.length=ms.length
 | [],[],[],_,_=>⟨rfl,rfl⟩
 | [],[],_ :: _,_,h=>by exact absurd h id
 | [],_ :: _,_,_,h=>by exact absurd h id
 | m :: ms,[],_,_,h=>by cases m <;> exact absurd h id
 | m :: ms,d :: ds,[],_,h=>by cases m <;> exact absurd h id
 | .dat :: ms,d :: ds,v :: vs,is,h=>by obtain ⟨a,b⟩:=bw.len h.2;exact ⟨by simp [a],by simp [b]⟩
 | .bor :: ms,d :: ds,v :: vs,is,h=>by obtain ⟨a,b⟩:=bw.len h.2;exact ⟨by simp [a],by simp [b]⟩
 | .ino :: ms,d :: ds,v :: vs,is,h=>by obtain ⟨_,_,_,_,_,_,_,h⟩:=h;obtain ⟨a,b⟩:=bw.len h;exact ⟨by simp [a],by simp [b]⟩
def At (K:Fg) (G I:Addr->Prop) (H:Hp) (is:List Addr) (s:Sl) (x:Option V):Prop:=match s with
 | .un=>True
 | .dat d=>∃ v,x=some v/\Dm K G H d v
 | .ino d=>∃ a,x=some (.ref a)/\a∈is/\G a/\Top K G H d a
 | .ro d=>∃ a,x=some (.ref a)/\d4 K G I H d a
 | .own _=>False
theorem At.more {is is':List Addr} {s:Sl} {x:Option V} (h:At K G I H is s x) (q:∀ a∈is,a∈is'):At K G I H is' s x:=by
 cases s with
 | ino d=>obtain ⟨a,e,m,r⟩:=h;exact ⟨a,e,q a m,r⟩
 | _=>exact h
theorem bB:∀ {ms:List PM} {ds:List PyData} {vs:List V} {is:List Addr} {n:Nat} {tl:St},bw K G I H ms ds vs is->∀ {i:Nat} {s:Sl},(ah ms ds n)[i]?=some s->∀ {x:Option V},(vs.map some++tl)[i]?=some x->At K G I H is s x
 | [],[],[],is,n,tl,h,i,s,e,x,_=>by
  simp only [ah,List.getElem?_replicate] at e;split at e
  ·cases e;trivial
  ·cases e
 | [],[],_ :: _,_,_,_,h,_,_,_,_,_=>by exact absurd h id
 | [],_ :: _,_,_,_,_,h,_,_,_,_,_=>by exact absurd h id
 | m :: ms,[],_,_,_,_,h,_,_,_,_,_=>by cases m <;> exact absurd h id
 | m :: ms,d :: ds,[],_,_,_,h,_,_,_,_,_=>by cases m <;> exact absurd h id
 | .dat :: ms,d :: ds,v :: vs,is,n,tl,h,0,s,e,x,ex=>by
  simp [ah] at e ex;subst e ex;exact ⟨v,rfl,h.1⟩
 | .dat :: ms,d :: ds,v :: vs,is,n,tl,h,i+1,s,e,x,ex=>by
  simp [ah] at e;exact bB h.2 e (by simpa using ex)
 | .bor :: ms,d :: ds,v :: vs,is,n,tl,h,0,s,e,x,ex=>by
  simp [ah] at e ex;subst e ex;have h1:zA K G I H d v:=h.1;cases d <;> first | exact h1 | exact ⟨v,rfl,h1⟩ | (obtain ⟨a,rfl,r⟩:=h1;exact ⟨a,rfl,r⟩)
 | .bor :: ms,d :: ds,v :: vs,is,n,tl,h,i+1,s,e,x,ex=>by
  simp [ah] at e;exact bB h.2 e (by simpa using ex)
 | .ino :: ms,d :: ds,v :: vs,is,n,tl,h,0,s,e,x,ex=>by
  simp [ah] at e ex;subst e ex;obtain ⟨a,r,rfl,rfl,g,t,_,_⟩:=h;exact ⟨a,rfl,Jy,g,t⟩
 | .ino :: ms,d :: ds,v :: vs,is,n,tl,h,i+1,s,e,x,ex=>by
  simp [ah] at e;obtain ⟨a,r,rfl,rfl,g,t,_,h⟩:=h;exact (bB h e (by simpa using ex)).more fun b hb=>JJ _ hb
theorem ja:∀ {ms:List PM} {ds:List PyData} {vs:List V} {is:List Addr} {n:Nat} {tl:St},bw K G I H ms ds vs is->∀ {i j:Nat} {c c':PyData} {a:Addr},(ah ms ds n)[i]?=some (.ino c)->(ah ms ds n)[j]?=some (.ino c') ->
  (vs.map some++tl)[i]?=some (some (.ref a))->(vs.map some++tl)[j]?=some (some (.ref a))->i=j
 | [],[],[],is,n,tl,h,i,j,c,c',a,e,_,_,_=>by
  simp only [ah,List.getElem?_replicate] at e;split at e <;> cases e
 | [],[],_ :: _,_,_,_,h,_,_,_,_,_,_,_,_,_=>by exact absurd h id
 | [],_ :: _,_,_,_,_,h,_,_,_,_,_,_,_,_,_=>by exact absurd h id
 | m :: ms,[],_,_,_,_,h,_,_,_,_,_,_,_,_,_=>by cases m <;> exact absurd h id
 | m :: ms,d :: ds,[],_,_,_,h,_,_,_,_,_,_,_,_,_=>by cases m <;> exact absurd h id
 | m :: ms,d :: ds,v :: vs,is,n,tl,h,0,0,c,c',a,e,e',s,s'=>rfl
 | m :: ms,d :: ds,v :: vs,is,n,tl,h,i+1,j+1,c,c',a,e,e',s,s'=>by
  have hr:∃ r,bw K G I H ms ds vs r:=by
   cases m with
   | dat=>exact ⟨is,h.2⟩
   | bor=>exact ⟨is,h.2⟩
   | ino=>obtain ⟨_,r,_,_,_,_,_,h⟩:=h;exact ⟨r,h⟩
  obtain ⟨r,hr⟩:=hr;have:i=j:=ja (n:=n - 1) (tl:=tl) hr (by cases m <;> simpa [ah] using e) (by cases m <;> simpa [ah] using e') (by simpa using s) (by simpa using s');rw [this]
 | m :: ms,d :: ds,v :: vs,is,n,tl,h,0,j+1,c,c',a,e,e',s,s'=>by
  cases m with
  | dat=>simp [ah] at e
  | bor=>cases d <;> simp [ah,yM] at e
  | ino =>
   obtain ⟨b,r,rfl,rfl,g,t,nr,h⟩:=h;simp [ah] at e' s;subst s;obtain ⟨a',ea,m',_⟩:=bB (tl:=tl) h e' (by simpa using s');cases ea;exact absurd m' nr
 | m :: ms,d :: ds,v :: vs,is,n,tl,h,i+1,0,c,c',a,e,e',s,s'=>by
  cases m with
  | dat=>simp [ah] at e'
  | bor=>cases d <;> simp [ah,yM] at e'
  | ino =>
   obtain ⟨b,r,rfl,rfl,g,t,nr,h⟩:=h;simp [ah] at e s';subst s';obtain ⟨a',ea,m',_⟩:=bB (tl:=tl) h e (by simpa using s);cases ea;exact absurd m' nr
theorem fh {G':Addr->Prop}:∀ {ms:List PM} {ds:List PyData} {vs:List V} {is:List Addr} {n:Nat} {tl:St} {env':En} {σ':St} {outs:List PyData},bw K G I H ms ds vs is->ms.length<=env'.length ->
  (∀ (i:Nat) (c:PyData),(ah ms ds n)[i]?=some (.ino c)->∃ c',env'[i]?=some (.ino c')/\σ'[i]?=(vs.map some++tl)[i]?)->(∀ (i:Nat) (c:PyData) (a:Addr),env'[i]?=some (.ino c)->σ'[i]?=some (some (.ref a))->Top K G' H' c a) ->
  ij ms env'=some outs->ix K G' H' outs is
 | [],[],[],is,n,tl,env',σ',outs,h,_,_,_,e=>by
  rw [show is=[] from h];cases env' <;> (simp only [ij] at e;cases e;trivial)
 | [],[],_ :: _,_,_,_,_,_,_,h,_,_,_,_=>by exact absurd h id
 | [],_ :: _,_,_,_,_,_,_,_,h,_,_,_,_=>by exact absurd h id
 | m :: ms,[],_,_,_,_,_,_,_,h,_,_,_,_=>by cases m <;> exact absurd h id
 | m :: ms,d :: ds,[],_,_,_,_,_,_,h,_,_,_,_=>by cases m <;> exact absurd h id
 | m :: ms,d :: ds,v :: vs,is,n,tl,[],σ',outs,h,hl,h1,h2,e=>by simp at hl
 | m :: ms,d :: ds,v :: vs,is,n,tl,s :: es,σ',outs,h,hl,h1,h2,e=>by
  have hl':ms.length<=es.length:=by simpa using hl
  have t1:∀ (i:Nat) (c:PyData),(ah ms ds (n - 1))[i]?=some (.ino c)->∃ c',es[i]?=some (.ino c')/\σ'.tail[i]?=(vs.map some++tl)[i]?:=fun i c z=>by
   obtain ⟨c',e',q⟩:=h1 (i+1) c (by cases m <;> simpa [ah] using z);exact ⟨c',by simpa using e',by simpa using q⟩
  have t2:∀ (i:Nat) (c:PyData) (a:Addr),es[i]?=some (.ino c)->σ'.tail[i]?=some (some (.ref a))->Top K G' H' c a:=fun i c a z q=>h2 (i+1) c a (by simpa using z) (by simpa using q);cases m with
  | dat=>exact fh h.2 hl' t1 t2 (by simpa [ij] using e)
  | bor=>exact fh h.2 hl' t1 t2 (by simpa [ij] using e)
  | ino =>
   obtain ⟨b,r,rfl,rfl,g,t,nr,h⟩:=h;obtain ⟨c',e',q⟩:=h1 0 d (by simp [ah]);simp at e' q;subst e';simp only [ij] at e;split at e
   ·rename_i os ho;cases e;exact ⟨h2 0 c' b (by simp) (by simpa using q),fh h hl' t1 t2 ho⟩
   ·cases e
theorem tO (hg:∀ g d,gd[g]?=some d->∀ F H,Dm K F H d (ga g)) {ms:List PM} {N:List Str} {b:XS} {vs:List V} {H:Hp} {Q:VK} {E:XK} (h:cE (cM gd ms N.length b) K vs H Q E) (hn:ms.length<=N.length) :
  rS K ga b { nx:=fun _ H'=>Q .non H',rt:=Q } (start N vs) H:=by
 obtain ⟨G,ds,is,pr,outs,hF,ha,hd,post⟩:=h;have ha:bw K G (·∈is) H ms ds vs is:=ha;obtain ⟨hl1,hl2⟩:=ha.len;have hstart:start N vs=vs.map some++List.replicate (N.length - vs.length) none:=rfl;have no:noOwn (ah ms ds N.length):=fun i d e=>by
  have hi:i < (ah ms ds N.length).length:=(Js.mp e).1;rw [bS hl1 hn] at hi;have hx:(vs.map some++List.replicate (N.length - vs.length) none)[i]?=some ((vs.map some++List.replicate (N.length - vs.length) none)[i]'(by rw [Jr,Jt,Mf];omega)):=Jq _;exact (bB ha e hx:False)
 have at':∀ {i:Nat} {s:Sl},(ah ms ds N.length)[i]?=some s->∃ x,(start N vs)[i]?=some x/\At K G (·∈is) H is s x:=fun {i s} e=>by
  have hi:i < (ah ms ds N.length).length:=(Js.mp e).1;rw [bS hl1 hn] at hi;have hx:(start N vs)[i]?=some ((start N vs)[i]'(by rw [hstart,Jr,Jt,Mf];omega)):=Jq _;exact ⟨_,hx,bB ha e hx⟩
 have eF:FF G (ah ms ds N.length) (start N vs)=G:=cn no;have muI:∀ i,mu (ah ms ds N.length) i->∃ c,(ah ms ds N.length)[i]?=some (.ino c):=fun i ⟨c,m⟩=>m.elim (fun z=>absurd z (no i c)) fun z=>⟨c,z⟩;have R:Rel K G H (·∈is) (ah ms ds N.length) (start N vs) H:=by
  refine ⟨by rw [bS hl1 hn,hstart,Jr,Jt,Mf];omega,fun i d e=>?_,fun i d e=>absurd e (no i d),fun i d e=>?_,fun i d e=>?_,fun i j a h1 h2 h3 h4=>?_,hd,fun _ _ h _=>h⟩
  ·rw [eF];obtain ⟨x,hx,v,rfl,r⟩:=at' e;exact ⟨v,hx,r⟩
  ·rw [eF];obtain ⟨x,hx,a,rfl,m,g,t⟩:=at' e;exact ⟨a,hx,g,m,t⟩
  ·rw [eF];obtain ⟨x,hx,a,rfl,r⟩:=at' e;refine ⟨a,hx,r.pr Pr.refl (fun _ z=>z) (fun b hb=>?_) fun _ _ z _=>z⟩;obtain ⟨j,m,s⟩:=hb;obtain ⟨c,m⟩:=muI j m;obtain ⟨x,hx,a,rfl,m,g,t⟩:=at' m;rw [s] at hx;cases hx;exact m
  ·obtain ⟨c,m1⟩:=muI i h1;obtain ⟨c',m2⟩:=muI j h2;exact ja ha m1 m2 h3 h4
 simp only [cM] at hF;rw [JB hl1] at hF
 ·have inoK:∀ {env':En} {σ':St},KpS (ah ms ds N.length) (start N vs) env' σ'->∀ (i:Nat) (c:PyData),(ah ms ds N.length)[i]?=some (.ino c)->∃ c',env'[i]?=some (.ino c')/\σ'[i]?=(vs.map some++List.replicate (N.length - vs.length) none)[i]?:=fun {env' σ'} k i c e=>by
   obtain ⟨s',e',v,w⟩:=k.2 i _ e;obtain ⟨c',rfl⟩:=v;exact ⟨c',e',w trivial⟩
  have hlE:∀ {env':En} {σ':St},KpS (ah ms ds N.length) (start N vs) env' σ'->ms.length<=env'.length:=fun {env' σ'} k=>by rw [k.1,bS hl1 hn];exact hn
  split at hF
  ·rename_i rv env' hS;split at hF
   ·rename_i pr' outs' hpr houts;cases hF;refine sS hg b _ _ hS G H (·∈is) _ H _ R fun v σ' H' R' k' r'=>?_;have mono:∀ b,G b->FF G env' σ' b:=fun b z=>.inl z;cases rv with
    | bor i=>cases hpr
    | dat d =>
     cases hpr
     exact post v H' (fun b o e n=>R'.cL b o e n) ⟨Dm.mono mono r',fh ha (hlE k') (inoK k') (fun i c a e s=>by
      obtain ⟨a',s',_,_,t⟩:=R'.ino i c e;rw [s] at s';cases s'
      exact t.pr Pr.refl mono fun _ z=>z) houts⟩
    | frs d =>
     cases hpr;obtain ⟨a,rfl,Ra,t,w,nF,hino,_⟩:=r';have mono':∀ b,(G b\/b=a)->FF (fun b=>G b\/b=a) env' σ' b:=fun b z=>.inl z
     refine post _ H' (fun b o e n=>R'.cL b o e n) ⟨a,rfl,?_,t.pr Pr.refl (fun b z=>z.imp (mono b) id) (fun _ z=>z),fh ha (hlE k') (inoK k') (fun i c a' e s=>by
      obtain ⟨a2,s',_,_,t'⟩:=Ra.ino i c e;rw [s] at s';cases s'
      exact t'.pr Pr.refl mono' fun _ z=>z) houts⟩
     rcases w with w | w
     ·exact w
     ·-- it would be one that was handed in to be changed
      exfalso;have key:∀ {ms:List PM} {ds:List PyData} {vs:List V} {is:List Addr} {I:Addr->Prop} {n:Nat} {tl:St},bw K G I H ms ds vs is->a∈is->∃ (i:Nat) (c:PyData),(ah ms ds n)[i]?=some (.ino c)/\(vs.map some++tl)[i]?=some (some (.ref a)):=by
       intro ms;induction ms with
       | nil =>
        intro ds vs is I n tl h m;cases ds with
        | cons _ _=>exact absurd h id
        | nil=>cases vs with
         | cons _ _=>exact absurd h id
         | nil=>rw [show is=[] from h] at m;cases m
       | cons p ms ih =>
        intro ds vs is I n tl h m;cases ds with
        | nil=>cases p <;> exact absurd h id
        | cons d ds =>
         cases vs with
         | nil=>cases p <;> exact absurd h id
         | cons v vs =>
          cases p with
          | dat=>obtain ⟨i,c,e,s⟩:=ih (n:=n - 1) (tl:=tl) h.2 m;exact ⟨i+1,c,by simpa [ah] using e,by simpa using s⟩
          | bor=>obtain ⟨i,c,e,s⟩:=ih (n:=n - 1) (tl:=tl) h.2 m;exact ⟨i+1,c,by simpa [ah] using e,by simpa using s⟩
          | ino =>
           obtain ⟨b,r,rfl,rfl,g,t,nr,h⟩:=h;rcases JV.mp m with rfl | m
           ·exact ⟨0,d,by simp [ah],by simp⟩
           ·obtain ⟨i,c,e,s⟩:=ih (n:=n - 1) (tl:=tl) h m;exact ⟨i+1,c,by simpa [ah] using e,by simpa using s⟩
      obtain ⟨i,c,e,s⟩:=key (n:=N.length) (tl:=List.replicate (N.length - vs.length) none) ha w;obtain ⟨c',e',s'⟩:=inoK k' i c e;exact hino i c' e' (s'.trans s)
   ·cases hF
  ·rename_i env' hS;split at hF
   ·rename_i outs' houts;cases hF;refine sS hg b _ _ hS G H (·∈is) _ H _ R fun σ' H' R' k'=>?_;have mono:∀ b,G b->FF G env' σ' b:=fun b z=>.inl z
    exact post .non H' (fun b o e n=>R'.cL b o e n) ⟨rfl,fh ha (hlE k') (inoK k') (fun i c a e s=>by
      obtain ⟨a',s',_,_,t⟩:=R'.ino i c e;rw [s] at s';cases s'
      exact t.pr Pr.refl mono fun _ z=>z) houts⟩
   ·cases hF
  ·cases hF
theorem oj {f:Fn} {vs:List V} {H:Hp} {Q:VK} {E:XK} (h:cE f K vs H Q E):vs.length=f.ms.length:=by
 obtain ⟨G,ds,is,pr,outs,_,ha,_⟩:=h;exact ha.len.2
end
open PySem PySem.Spec PyProof.Rows
noncomputable def Prm.two (r:Fg->R2) (f:PyData->PyData->Option PR) (ok:∀ (K:Fg) (F:Addr->Prop) (H:Hp) (x y:PyData) (u v:V) (pr:PR) (Q:VK),f x y=some pr->Vw K F H x u->Vw K F H y v->(∀ b,F b->H b≠none)->(∀ w H',ar H H'->vV K F H H' pr w->Q w H')->r K u v H Q):Prm where
 r:=fun K vs H Q=>match vs with | [u,v]=>r K u v H Q | _=>False
 f:=fun ds=>match ds with | [x,y]=>f x y | _=>none
 ok:=fun K F H ds vs pr Q hf hv hd q=>by
  match ds,hf with
  | [x,y],hf =>
   obtain ⟨u,r1,rfl,h1,v,r2,rfl,h2,rfl⟩:=hv;exact ok K F H x y u v pr Q hf h1 h2 hd q
noncomputable def Prm.one (r:Fg->V->Hp->VK->Prop) (f:PyData->Option PR) (ok:∀ (K:Fg) (F:Addr->Prop) (H:Hp) (x:PyData) (u:V) (pr:PR) (Q:VK),f x=some pr->Vw K F H x u->(∀ b,F b->H b≠none)->(∀ w H',ar H H'->vV K F H H' pr w->Q w H')->r K u H Q):Prm where
 r:=fun K vs H Q=>match vs with | [u]=>r K u H Q | _=>False
 f:=fun ds=>match ds with | [x]=>f x | _=>none
 ok:=fun K F H ds vs pr Q hf hv hd q=>by
  match ds,hf with
  | [x],hf =>
   obtain ⟨u,r1,rfl,h1,rfl⟩:=hv;exact ok K F H x u pr Q hf h1 hd q
section
variable {K:Fg} {F F':Addr->Prop} {H:Hp}
theorem vInt {i:Int} {v:V} (h:Vw K F H (.int i) v):v=.int i:=h
theorem vBl {b:Bool} {v:V} (h:Vw K F H (.bool b) v):v=.bl b:=h
theorem Cs {v:V} (h:Vw K F H .none v):v=.non:=h
theorem vStr {x:Str} {v:V} (h:Vw K F H (.str x) v):v=.str x/\x.length<=sizeLine/\PyData.strOk x=true:=h
theorem lL {ds:List PyData} {v:V} (h:Vw K F H (.list ds) v):∃ a xs,v=.ref a/\SqL K H a xs/\xs.length<=sizeLine/\DmL K F H ds xs:=let ⟨a,e,xs,r⟩:=h;⟨a,xs,e,r⟩
theorem lN {ds:List PyData} {v:V} (h:Vw K F H (.tuple ds) v):∃ a xs,v=.ref a/\SqT K H a xs/\xs.length<=sizeLine/\DmL K F H ds xs:=h
theorem zG {p:Addr} {xs:List V} {ds:List PyData} (hp:H p=none) (hz:xs.length<=sizeLine) (h:DmL K F H ds xs):vV K F H (upd H p (.lst xs)) (.frs (.list ds)) (.ref p) :=
 ⟨p,rfl,hp,xs,af,hz,(h.fresh hp).pr (Pr.of_same (ar.nw _ hp)) fun _ z=>z⟩
theorem DN {p:Addr} {xs:List V} {ds:List PyData} (hp:H p=none) (hz:xs.length<=sizeLine) (h:DmL K F H ds xs):vV K F H (upd H p (.tup xs)) (.dat (.tuple ds)) (.ref p) :=
 ⟨p,xs,rfl,.inl (.inl af),hz,h.pr (Pr.of_same (ar.nw _ hp)) fun _ z=>z⟩
end
noncomputable def Fz:PyData->PyData->Option PR
 | .int i,.int j=>some (.dat (.int (i+j)))
 | .str x,.str y=>if x.length+y.length<=sizeLine then some (.dat (.str (x++y))) else none
 | .list xs,.list ys=>if xs.length+ys.length<=sizeLine then some (.frs (.list (xs++ys))) else none
 | .tuple (x :: xs),.tuple ys=>if (x :: xs).length+ys.length<=sizeLine then some (.dat (.tuple ((x :: xs)++ys))) else none
 | _,_=>none
def B0 (K:Fg):R2:=rOr (rI0 fun i j=>.int (i+j)) (rOr z0 (rOr (Az K) (C3 K)))
theorem iE (x y:Str):(x++y).length=x.length+y.length:=by
 show (x.cps++y.cps).size=_;rw [Array.size_append];rfl
noncomputable def lK:Prm:=Prm.two B0 Fz fun K F H x y u v pr Q hf hx hy hd q=>by
 unfold Fz at hf;split at hf
 ·cases hf;rw [vInt hx,vInt hy];exact .inl ⟨_,_,rfl,rfl,q _ H (ar.rf H) rfl⟩
 ·split at hf
  ·rename_i x y hl;cases hf;obtain ⟨rfl,l1,o1⟩:=vStr hx;obtain ⟨rfl,l2,o2⟩:=vStr hy;exact .inr (.inl ⟨_,_,rfl,rfl,hl,q _ H (ar.rf H) ⟨rfl,by rw [iE];exact hl,kH o1 o2⟩⟩)
  ·cases hf
 ·split at hf
  ·rename_i xs ys hl;cases hf;obtain ⟨a,us,rfl,s1,z1,d1⟩:=lL hx;obtain ⟨b,ws,rfl,s2,z2,d2⟩:=lL hy;have hl':us.length+ws.length<=sizeLine:=by rw [d1.len,d2.len];exact hl
   exact .inr (.inr (.inl ⟨a,b,us,ws,rfl,rfl,s1,s2,hl',fun p hp=>q _ _ (ar.nw _ hp) (zG hp (by rw [Jr];exact hl') (d1.app d2))⟩))
  ·cases hf
 ·split at hf
  ·rename_i x xs ys hl;cases hf;obtain ⟨a,us,rfl,s1,z1,d1⟩:=lN hx;obtain ⟨b,ws,rfl,s2,z2,d2⟩:=lN hy;have hl':us.length+ws.length<=sizeLine:=by rw [d1.len,d2.len];exact hl
   have hne:us≠[]:=fun z=>by rw [z] at d1;obtain ⟨v,r,e,_⟩:=d1;cases e
   refine .inr (.inr (.inr ⟨a,b,us,ws,rfl,rfl,s1,s2,hne,hl',fun z=>?_,fun z p hp=>q _ _ (ar.nw _ hp) (DN hp (by rw [Jr];exact hl') (d1.app d2))⟩));subst z;have hys:ys=[]:=by
    cases ys with
    | nil=>rfl
    | cons y ys=>obtain ⟨v,r,e,_⟩:=d2;cases e
   subst hys;exact q _ H (ar.rf H) ⟨a,us,rfl,s1,z1,by rw [Kj];exact d1⟩
  ·cases hf
 ·cases hf
theorem aO {X:Cx}:OpR X (binaryOp .Add) (fun x y=>lK.r X.K [x,y]):=orR Aq (orR yR (orR xP xx))
noncomputable def zF (c:Int->Int->Bool) (g:Int->Int->PyData):PyData->PyData->Option PR
 | .int i,.int j=>if c i j=true then some (.dat (g i j)) else none
 | _,_=>none
noncomputable def Prm.ints (C:Int->Int->Prop) (c:Int->Int->Bool) (hc:∀ i j,c i j=true->C i j) (g:Int->Int->Int):Prm:=Prm.two (fun _=>rI C fun i j=>.int (g i j)) (zF c fun i j=>.int (g i j)) fun K F H x y u v pr Q hf hx hy hd q=>by
 unfold zF at hf;split at hf
 ·split at hf
  ·rename_i h;cases hf;rw [vInt hx,vInt hy];exact ⟨_,_,rfl,rfl,hc _ _ h,q _ H (ar.rf H) rfl⟩
  ·cases hf
 ·cases hf
noncomputable def Prm.z5 (g:Int->Int->Bool):Prm:=Prm.two (fun _=>rI0 fun i j=>.bl (g i j)) (zF (fun _ _=>true) fun i j=>.bool (g i j)) fun K F H x y u v pr Q hf hx hy hd q=>by
 unfold zF at hf;split at hf
 ·rw [JB rfl] at hf;cases hf;rw [vInt hx,vInt hy];exact ⟨_,_,rfl,rfl,q _ H (ar.rf H) rfl⟩
 ·cases hf
noncomputable def Ga:Prm:=Prm.two (fun _=>rI0 fun i j=>.int (i - j)) (zF (fun _ _=>true) fun i j=>.int (i - j)) fun K F H x y u v pr Q hf hx hy hd q=>by
 unfold zF at hf;split at hf
 ·rw [JB rfl] at hf;cases hf;rw [vInt hx,vInt hy];exact ⟨_,_,rfl,rfl,q _ H (ar.rf H) rfl⟩
 ·cases hf
theorem rJ {X:Cx}:OpR X (binaryOp .Sub) (fun x y=>Ga.r X.K [x,y]):=Cp
noncomputable def mulC (i j:Int):Bool:=(decide (-(2 ^ 64) < i)&&decide (i < 2 ^ 64))||(decide (-(2 ^ 64) < j)&&decide (j < 2 ^ 64))
noncomputable def vX:Prm:=Prm.ints De mulC (fun i j h=>by simpa [mulC,De,Bool.or_eq_true,Kl,LZ] using h) (fun i j=>i*j)
theorem dM {X:Cx}:OpR X (binaryOp .Mult) (fun x y=>vX.r X.K [x,y]):=CQ
noncomputable def uv:Prm:=Prm.ints (fun _ j=>0 < j) (fun _ j=>decide (0 < j)) (fun i j h=>by simpa using h) (fun i j=>i % j)
theorem cm {X:Cx}:OpR X (binaryOp .Mod) (fun x y=>uv.r X.K [x,y]):=Bs
noncomputable def uH:Prm:=Prm.ints (fun _ j=>0 < j/\j.natAbs.log2 < 9000) (fun _ j=>decide (0 < j)&&decide (j < 2 ^ 200)) (fun i j h=>by
 simp only [Kl,LZ] at h;refine ⟨h.1,?_⟩;have hz:j.natAbs≠0:=by omega
 have:j.natAbs < 2 ^ 200:=by omega
 exact J4 ((Nat.log2_lt hz).mpr this) (by decide)) (fun i j=>i / j)
theorem jO {X:Cx}:OpR X (binaryOp .FloorDiv) (fun x y=>uH.r X.K [x,y]):=uL
noncomputable def DS:Prm:=Prm.ints HE (fun i j=>decide (0<=j)&&decide (j<=1000000)&&decide (i.natAbs < 2 ^ 64)) (fun i j h=>by simp only [Kl,LZ] at h;exact ⟨h.1.1,h.1.2,h.2⟩) (fun i j=>i ^ j.toNat)
theorem l7 {X:Cx}:OpR X (binaryOp .Pow) (fun x y=>DS.r X.K [x,y]):=Ba
noncomputable def HP:Prm:=Prm.one (fun _=>rU fun i=>.int (-i)) (fun x=>match x with | .int i=>some (.dat (.int (-i))) | _=>none) fun K F H x u pr Q hf hx hd q=>by
 split at hf
 ·cases hf;rw [vInt hx];exact ⟨_,rfl,q _ H (ar.rf H) rfl⟩
 ·cases hf
noncomputable def DD (g:Int->Int->Bool) (h:Str->Str->Bool):PyData->PyData->Option PR
 | .int i,.int j=>some (.dat (.bool (g i j)))
 | .str x,.str y=>some (.dat (.bool (h x y)))
 | _,_=>none
noncomputable def ltS (x y:Str):Bool:=decide (x.cps.toList < y.cps.toList)
noncomputable def leS (x y:Str):Bool:=!decide (y.cps.toList < x.cps.toList)
noncomputable def ltP:Prm:=Prm.two (fun _=>rOr (rI0 fun i j=>.bl (decide (i < j))) Gv) (DD (fun i j=>decide (i < j)) ltS) fun K F H x y u v pr Q hf hx hy hd q=>by
 unfold DD at hf;split at hf
 ·cases hf;rw [vInt hx,vInt hy];exact .inl ⟨_,_,rfl,rfl,q _ H (ar.rf H) rfl⟩
 ·cases hf;rw [(vStr hx).1,(vStr hy).1];exact .inr ⟨_,_,rfl,rfl,q _ H (ar.rf H) rfl⟩
 ·cases hf
theorem qj {X:Cx}:OpR X (compareOp .Lt) (fun x y=>ltP.r X.K [x,y]):=orR Ek Bu
noncomputable def leP:Prm:=Prm.two (fun _=>rOr (rI0 fun i j=>.bl (decide (i<=j))) HY) (DD (fun i j=>decide (i<=j)) leS) fun K F H x y u v pr Q hf hx hy hd q=>by
 unfold DD at hf;split at hf
 ·cases hf;rw [vInt hx,vInt hy];exact .inl ⟨_,_,rfl,rfl,q _ H (ar.rf H) rfl⟩
 ·cases hf;rw [(vStr hx).1,(vStr hy).1];exact .inr ⟨_,_,rfl,rfl,q _ H (ar.rf H) rfl⟩
 ·cases hf
theorem ku {X:Cx}:OpR X (compareOp .LtE) (fun x y=>leP.r X.K [x,y]):=orR Fh Ax
noncomputable def gtP:Prm:=Prm.z5 fun i j=>decide (i > j)
theorem tQ {X:Cx}:OpR X (compareOp .Gt) (fun x y=>gtP.r X.K [x,y]):=Ef
noncomputable def geP:Prm:=Prm.z5 fun i j=>decide (i>=j)
theorem AG {X:Cx}:OpR X (compareOp .GtE) (fun x y=>geP.r X.K [x,y]):=FX
mutual
noncomputable def noD:PyData->Bool
 | .dict _=>false
 | .list xs=>dq xs
 | .tuple xs=>dq xs
 | _=>true
noncomputable def dq:List PyData->Bool
 | []=>true
 | x :: xs=>noD x&&dq xs
end
section
variable {K:Fg} {F:Addr->Prop} {H:Hp}
mutual
theorem Dm.lay:∀ {d:PyData} {v:V},Dm K F H d v->noD d=true->d.canLay0=true
 | .none,v,h,_=>by simp [PyData.canLay0]
 | .bool b,v,h,_=>by simp [PyData.canLay0]
 | .int i,v,h,_=>by simp [PyData.canLay0]
 | .str x,v,h,_=>by simpa [PyData.canLay0] using h.2.2
 | .list ds,v,h,n=>by obtain ⟨a,xs,e,l,z,r⟩:=h;simpa [PyData.canLay0] using DmL.lay r (by simpa [noD] using n)
 | .tuple ds,v,h,n=>by obtain ⟨a,xs,e,l,z,r⟩:=h;simpa [PyData.canLay0] using DmL.lay r (by simpa [noD] using n)
 | .dict kvs,v,h,n=>by simp [noD] at n
theorem DmL.lay:∀ {ds:List PyData} {vs:List V},DmL K F H ds vs->dq ds=true->PyData.canLayAll0 ds=true
 | [],vs,h,_=>by simp [PyData.canLayAll0]
 | d :: ds,vs,h,n=>by
  obtain ⟨v,r,e,h1,h2⟩:=h;have n':noD d=true/\dq ds=true:=by simpa [dq] using n
  simp [PyData.canLayAll0,Dm.lay h1 n'.1,DmL.lay h2 n'.2]
end
theorem Vw.lay {d:PyData} {v:V} (h:Vw K F H d v) (n:noD d=true):d.canLay0=true:=by
 cases d with
 | list ds=>obtain ⟨a,xs,e,l,z,r⟩:=lL h;simpa [PyData.canLay0] using DmL.lay r (by simpa [noD] using n)
 | dict ds=>simp [noD] at n
 | _=>exact Dm.lay (K:=K) (F:=F) (H:=H) h n
variable {X:Cx} {pins:List (Addr×Obj)} {σ:St} {s:Shared}
mutual
theorem Dm.reads (I:Inv X pins σ H s):∀ {d:PyData} {v:V} {u:Value},Dm X.K F H d v->noD d=true->RelV v u->∃ as,Reads s.heap u d as
 | .none,v,u,hd,_,r=>by
  have e:v=.non:=hd;subst e;cases (show u=Value.none from r);exact ⟨_,.none⟩
 | .bool b,v,u,hd,_,r=>by
  have e:v=.bl b:=hd;subst e;cases (show u=Value.bool b from r);exact ⟨_,.bool b⟩
 | .int i,v,u,hd,_,r=>by
  have e:v=.int i:=hd;subst e;obtain ⟨t,e⟩:=(show ∃ t,u=Value.int i t from r);subst e;exact ⟨_,.int i t⟩
 | .str y,v,u,hd,_,r=>by
  have e:v=.str y:=hd.1;subst e;obtain ⟨t,e⟩:=(show ∃ t,u=Value.str y t from r);subst e;exact ⟨_,.str y t⟩
 | .list ds,v,u,hd,n,r=>by
  obtain ⟨a,xs,e,l,z,rs⟩:=hd;subst e;cases (show u=Value.ref a from r);obtain ⟨its,rv,⟨o,k,h1,h2,h3,h4⟩,_⟩:=I.list (l.elim (fun q=>.inl q.2) .inr);obtain ⟨as,ra⟩:=DmL.reads I rs (by simpa [noD] using n) rv;exact ⟨_,.list h1 h2 h4 (by simpa using ra)⟩
 | .tuple ds,v,u,hd,n,r=>by
  obtain ⟨a,xs,e,l,z,rs⟩:=hd;subst e;cases (show u=Value.ref a from r);obtain ⟨its,rv,⟨o,h1,h2,k,h4⟩,_⟩:=I.tuple l;obtain ⟨as,ra⟩:=DmL.reads I rs (by simpa [noD] using n) rv;exact ⟨_,.tuple h1 h2 h4 (by simpa using ra)⟩
 | .dict kvs,v,u,hd,n,r=>by simp [noD] at n
theorem DmL.reads (I:Inv X pins σ H s):∀ {ds:List PyData} {vs:List V} {us:List Value},DmL X.K F H ds vs->dq ds=true->Vals vs us->∃ as,ReadsAll s.heap us ds as
 | [],vs,us,hd,_,r=>by
  have e:vs=[]:=hd;subst e;cases r;exact ⟨_,.nil⟩
 | d :: ds,vs,us,hd,n,r=>by
  obtain ⟨v,rr,e,h1,h2⟩:=hd;have n':noD d=true/\dq ds=true:=by simpa [dq] using n
  subst e;cases r with
  | cons r1 r2 =>
   obtain ⟨as,q1⟩:=Dm.reads I h1 n'.1 r1;obtain ⟨bs,q2⟩:=DmL.reads I h2 n'.2 r2;exact ⟨_,.cons q1 q2⟩
end
theorem Vw.reads (I:Inv X pins σ H s) {d:PyData} {v:V} {u:Value} (h:Vw X.K F H d v) (n:noD d=true) (r:RelV v u):∃ as,Reads s.heap u d as:=by
 cases d with
 | list ds =>
  obtain ⟨a,xs,rfl,l,z,rs⟩:=lL h;cases (show u=Value.ref a from r);obtain ⟨its,rv,⟨o,k,h1,h2,h3,h4⟩,_⟩:=I.list l;obtain ⟨as,ra⟩:=DmL.reads I rs (by simpa [noD] using n) rv;exact ⟨_,.list h1 h2 h4 (by simpa using ra)⟩
 | dict ds=>simp [noD] at n
 | _=>exact Dm.reads (F:=F) I h n r
end
noncomputable def fP (d:PyData):Bool:=noD d&&decide (d.depth<=64)
def Jh (neg:Bool) (K:Fg):R2:=fun x y H Q=>∃ F d e,Vw K F H d x/\Vw K F H e y/\fP d=true/\fP e=true/\Q (.bl (if neg then !PyData.eqv d e else PyData.eqv d e)) H
noncomputable def eqD (neg:Bool) (d e:PyData):Option PR:=if fP d=true/\fP e=true then some (.dat (.bool (if neg then !PyData.eqv d e else PyData.eqv d e))) else none
noncomputable def DQ (neg:Bool):Prm:=Prm.two (Jh neg) (eqD neg) fun K F H x y u v pr Q hf hx hy hd q=>by
 unfold eqD at hf;split at hf
 ·rename_i h;cases hf;exact ⟨F,x,y,hx,hy,h.1,h.2,q _ H (ar.rf H) rfl⟩
 ·cases hf
noncomputable abbrev eqP:Prm:=DQ false
noncomputable abbrev neP:Prm:=DQ true
theorem dZ {K:Fg} {F:Addr->Prop} {H:Hp} {d:PyData} {v:V} (h:Vw K F H d v) (o:fP d=true):SeqAt.shaped d=true:=by
 have o':noD d=true/\d.depth<=64:=by simpa [fP] using o
 simp [SeqAt.shaped,h.lay o'.1,o'.2]
theorem dt {X:Cx} (hu:X.A.units+64 < cLine):OpR X (compareOp .Eq) (fun x y=>eqP.r X.K [x,y]):=by
 intro pins s σ H x y v u Q I rx ry h;obtain ⟨F,d,e,h1,h2,o1,o2,hq⟩:=h;obtain ⟨as,r1⟩:=h1.reads I (by have:=o1;simp [fP] at this;exact this.1) rx;obtain ⟨bs,r2⟩:=h2.reads I (by have:=o2;simp [fP] at this;exact this.1) ry;exact SeqAt.compareEq_shaped r1 r2 (dZ h1 o1) (dZ h2 o2) hu ⟨.bl _,H,I,rfl,hq⟩
theorem eD {X:Cx} (hu:X.A.units+64 < cLine):OpR X (compareOp .NotEq) (fun x y=>neP.r X.K [x,y]):=by
 intro pins s σ H x y v u Q I rx ry h;obtain ⟨F,d,e,h1,h2,o1,o2,hq⟩:=h;obtain ⟨as,r1⟩:=h1.reads I (by have:=o1;simp [fP] at this;exact this.1) rx;obtain ⟨bs,r2⟩:=h2.reads I (by have:=o2;simp [fP] at this;exact this.1) ry;exact SeqAt.compareNe_shaped r1 r2 (dZ h1 o1) (dZ h2 o2) hu ⟨.bl _,H,I,rfl,hq⟩
noncomputable def tf:PyData->Bool | .none=>true | _=>false
theorem uI {K:Fg} {F:Addr->Prop} {H:Hp} {d:PyData} {v:V} (h:Vw K F H d v):decide (v=.non)=tf d:=by
 cases d with
 | none=>rw [Cs h];rfl
 | bool b=>rw [vBl h];rfl
 | int i=>rw [vInt h];rfl
 | str x=>rw [(vStr h).1];rfl
 | list ds=>obtain ⟨a,xs,rfl,_⟩:=lL h;rfl
 | tuple ds=>obtain ⟨a,xs,rfl,_⟩:=lN h;rfl
 | dict ds=>obtain ⟨a,rfl,_⟩:=h;rfl
noncomputable def isP:Prm:=Prm.two (fun _=>Hn) (fun x y=>match y with | .none=>some (.dat (.bool (tf x))) | _=>none) fun K F H x y u v pr Q hf hx hy hd q=>by
 split at hf
 ·cases hf;exact ⟨Cs hy,q _ H (ar.rf H) (by rw [uI hx];rfl)⟩
 ·cases hf
theorem Ae {X:Cx}:OpR X (compareOp .Is) (fun x y=>isP.r X.K [x,y]):=xV
noncomputable def ixD:PyData->PyData->Option PR
 | .list xs,.int i=>(atI xs i).map .dat
 | .tuple xs,.int i=>(atI xs i).map .dat
 | .str x,.int i=>(atI x.cps.toList i).map fun c=>.dat (.str ⟨#[c]⟩)
 | _,_=>none
theorem wD {K:Fg} {F:Addr->Prop} {H:Hp} {ds:List PyData} {xs:List V} {i:Int} {d:PyData} (h:DmL K F H ds xs) (e:atI ds i=some d):∃ v,atI xs i=some v/\Dm K F H d v:=by
 unfold atI at e ⊢;rw [h.len];cases q:ixN ds.length i with
 | none=>rw [q] at e;cases e
 | some j =>
  rw [q] at e;have e:ds[j]?=some d:=e;exact h.get e
theorem yO {α:Type} {xs:List α} {i:Int} {x:α} (e:atI xs i=some x):x∈xs:=by
 unfold atI at e;cases q:ixN xs.length i with
 | none=>rw [q] at e;cases e
 | some j=>rw [q] at e;exact J5 (show xs[j]?=some x from e)
noncomputable def ixP:Prm:=Prm.two rIx ixD fun K F H x y u v pr Q hf hx hy hd q=>by
 unfold ixD at hf;split at hf
 ·obtain ⟨d,e,rfl⟩:=J7.mp hf;obtain ⟨a,us,rfl,s1,z1,d1⟩:=lL hx;rw [vInt hy];obtain ⟨v,ev,dv⟩:=wD d1 e;exact .inl ⟨a,us,_,v,rfl,rfl,s1,ev,q _ H (ar.rf H) dv⟩
 ·obtain ⟨d,e,rfl⟩:=J7.mp hf;obtain ⟨a,us,rfl,s1,z1,d1⟩:=lN hx;rw [vInt hy];obtain ⟨v,ev,dv⟩:=wD d1 e;exact .inr (.inl ⟨a,us,_,v,rfl,rfl,s1,ev,q _ H (ar.rf H) dv⟩)
 ·rename_i x i;obtain ⟨c,e,rfl⟩:=J7.mp hf;obtain ⟨rfl,l1,o1⟩:=vStr hx;rw [vInt hy];have hc:=eJ o1 c (yO e);exact .inr (.inr ⟨_,_,c,rfl,rfl,l1,e,q _ H (ar.rf H) ⟨rfl,by show 1<=sizeLine;decide,by simp [PyData.strOk,hc]⟩⟩)
 ·cases hf
theorem m8 {X:Cx}:IxR X (fun x y=>ixP.r X.K [x,y]):=zZ
noncomputable def cutD {α:Type} (xs:List α) (lo hi:Option Int):List α:=(xs.drop (HT.sIx xs.length 0 lo)).take (HT.sIx xs.length xs.length hi - HT.sIx xs.length 0 lo)
noncomputable def slD (lo hi:Option Int):PyData->Option PR
 | .list xs=>some (.frs (.list (cutD xs lo hi)))
 | .tuple xs=>if HT.sIx xs.length 0 lo=0/\HT.sIx xs.length xs.length hi=xs.length then none else some (.dat (.tuple (cutD xs lo hi)))
 | .str x=>some (.dat (.str (ur x lo hi)))
 | _=>none
def HZ (K:Fg) (lo hi:Option Int):V->Hp->VK->Prop:=fun x H Q=>F5 Hv (F5 (HH K) (Hl K)) x lo hi H Q
section
variable {K:Fg} {F:Addr->Prop} {H:Hp}
theorem DmL.drop:∀ {ds:List PyData} {xs:List V} (n:Nat),DmL K F H ds xs->DmL K F H (ds.drop n) (xs.drop n)
 | ds,xs,0,h=>h
 | [],xs,n+1,h=>by rw [show xs=[] from h];rfl
 | d :: ds,xs,n+1,h=>by obtain ⟨v,r,rfl,_,h2⟩:=h;exact DmL.drop n h2
theorem DmL.take:∀ {ds:List PyData} {xs:List V} (n:Nat),DmL K F H ds xs->DmL K F H (ds.take n) (xs.take n)
 | ds,xs,0,h=>by rw [List.take_zero,List.take_zero];rfl
 | [],xs,n+1,h=>by rw [show xs=[] from h];rfl
 | d :: ds,xs,n+1,h=>by obtain ⟨v,r,rfl,h1,h2⟩:=h;exact ⟨v,_,rfl,h1,DmL.take n h2⟩
theorem DmL.cut {ds:List PyData} {xs:List V} (lo hi:Option Int) (h:DmL K F H ds xs):DmL K F H (cutD ds lo hi) (um xs lo hi):=by
 unfold cutD um;rw [h.len];exact (h.drop _).take _
theorem oa (xs:List V) (lo hi:Option Int):(um xs lo hi).length<=xs.length:=by
 unfold um;rw [Kp,K3];omega
theorem rq {x:Str} (lo hi:Option Int) (h:PyData.strOk x=true):PyData.strOk (ur x lo hi)=true:=by
 have hm:=eJ h;unfold PyData.strOk ur;rw [Array.all_eq_true'];intro c hc;have:c∈(x.cps.toList.drop (HT.sIx x.length 0 lo)).take (HT.sIx x.length x.length hi - HT.sIx x.length 0 lo):=by simpa using hc
 have:=hm c (List.mem_of_mem_drop (List.mem_of_mem_take this));simpa using this
theorem EG {lo hi:Option Int} {x:PyData} {u:V} {pr:PR} {Q:VK} (hf:slD lo hi x=some pr) (hx:Vw K F H x u) (q:∀ w H',ar H H'->vV K F H H' pr w->Q w H'):HZ K lo hi u H Q:=by
 unfold slD at hf;split at hf
 ·cases hf;obtain ⟨a,us,rfl,s1,z1,d1⟩:=lL hx;exact .inr (.inl ⟨a,us,rfl,s1,fun p hp=>q _ _ (ar.nw _ hp) (zG hp (Ka (oa _ _ _) z1) (d1.cut lo hi))⟩)
 ·split at hf
  ·cases hf
  rename_i hn;cases hf;obtain ⟨a,us,rfl,s1,z1,d1⟩:=lN hx;exact .inr (.inr ⟨a,us,rfl,s1,by rw [d1.len];exact hn,fun p hp=>q _ _ (ar.nw _ hp) (DN hp (Ka (oa _ _ _) z1) (d1.cut lo hi))⟩)
 ·cases hf;obtain ⟨rfl,l1,o1⟩:=vStr hx;exact .inl ⟨_,rfl,l1,q _ H (ar.rf H) ⟨rfl,Ka (gG _ _ _) l1,rq lo hi o1⟩⟩
 ·cases hf
end
noncomputable def zS:Prm:=Prm.two (fun K x y H Q=>∃ i,y=.int i/\HZ K none (some i) x H Q) (fun x y=>match y with | .int i=>slD none (some i) x | _=>none) fun K F H x y u v pr Q hf hx hy hd q=>by
 split at hf
 ·exact ⟨_,vInt hy,EG hf hx q⟩
 ·cases hf
noncomputable def HF:PyData->Option PR
 | .str x=>some (.dat (.int x.length))
 | .list xs=>some (.dat (.int xs.length))
 | .tuple xs=>some (.dat (.int xs.length))
 | _=>none
noncomputable def ko:Prm:=Prm.one (fun K x=>Bx K [x]) HF fun K F H x u pr Q hf hx hd q=>by
 unfold HF at hf;split at hf
 ·cases hf;obtain ⟨rfl,l1,o1⟩:=vStr hx;exact Bw l1 (q _ H (ar.rf H) rfl)
 ·cases hf;obtain ⟨a,us,rfl,s1,z1,d1⟩:=lL hx;exact Cb s1 (q _ H (ar.rf H) (by rw [d1.len];rfl))
 ·cases hf;obtain ⟨a,us,rfl,s1,z1,d1⟩:=lN hx;exact Au s1 (q _ H (ar.rf H) (by rw [d1.len];rfl))
 ·cases hf
theorem jd {X:Cx} {f:Value} {r:List V->Hp->VK->Prop} {r':V->Hp->VK->Prop} (h:aJ X f r) (e:∀ x H Q,r' x H Q->r [x] H Q):aJ X f (fun vs H Q=>match vs with | [u]=>r' u H Q | _=>False):=by
 intro pins s σ H xs us Q I rv q
 match xs,q with
 | [x],q=>exact h pins s σ H [x] us Q I rv (e x H Q q)
theorem bu {X:Cx}:aJ X (.builtin "len") (ko.r X.K):=jd sQ fun _ _ _ h=>h
noncomputable def DI:Prm:=Prm.one (fun _ x=>F3 [x]) (fun x=>match x with | .int i=>some (.dat (.int (if i < 0 then -i else i))) | _=>none) fun K F H x u pr Q hf hx hd q=>by
 split at hf
 ·cases hf;rw [vInt hx];exact Gb (q _ H (ar.rf H) rfl)
 ·cases hf
theorem mn {X:Cx}:aJ X (.builtin "abs") (DI.r X.K):=jd rD fun _ _ _ h=>h
noncomputable def ED:Prm:=Prm.one (fun _ x=>A4 [x]) (fun x=>match x with | .int i=>some (.dat (.int i)) | .bool k=>some (.dat (.int (if k then 1 else 0))) | _=>none) fun K F H x u pr Q hf hx hd q=>by
 split at hf
 ·cases hf;rw [vInt hx];exact .inl ⟨_,rfl,q _ H (ar.rf H) rfl⟩
 ·cases hf;rw [vBl hx];exact .inr ⟨_,rfl,q _ H (ar.rf H) rfl⟩
 ·cases hf
theorem lO {X:Cx}:aJ X (.type "int") (ED.r X.K):=jd rR fun _ _ _ h=>h
noncomputable def zI (T:String) (x:PyData):Option PR:=match T with
 | "str" => some (.dat (.bool (isS x)))
 | "int" => some (.dat (.bool (isI x)))
 | "bool" => some (.dat (.bool (isB x)))
 | "tuple" => some (.dat (.bool (isT x)))
 | "list" => some (.dat (.bool (isL x)))
 | _=>none
def Fs (T:String) (K:Fg):V->Hp->VK->Prop:=fun x H Q=>∃ F d b,Vw K F H d x/\zI T d=some (.dat (.bool b))/\Q (.bl b) H
theorem D5 {T:String} {d:PyData} {pr:PR} (h:zI T d=some pr):∃ b,pr=.dat (.bool b):=by
 unfold zI at h;split at h <;> first | (cases h;exact ⟨_,rfl⟩) | cases h
noncomputable def lQ (T:String):Prm:=Prm.one (Fs T) (zI T) fun K F H x u pr Q hf hx hd q=>by
 obtain ⟨b,rfl⟩:=D5 hf;exact ⟨F,x,b,hx,hf,q _ H (ar.rf H) rfl⟩
theorem zc {K:Fg} {T:String} {d:PyData} {b:Bool} (h:zI T d=some (.dat (.bool b))):PySem.W.kitOne K (.type (tyN d)) (.type T)=some b:=by
 unfold zI at h;split at h
 ·cases h;exact F9 d
 ·cases h;exact FJ d
 ·cases h;exact E6 d
 ·cases h;exact Ce d
 ·cases h;exact Aw d
 ·cases h
def Jn (K:Fg):List V->Hp->VK->Prop:=fun vs H Q=>match vs with | [x,.ty T]=>(lQ T).r K [x] H Q | _=>False
theorem zB {X:Cx}:aJ X (.builtin "isinstance") (Jn X.K):=by
 intro pins s σ H xs us Q I r h
 match xs,h with
 | [x,.ty T'],h =>
  obtain ⟨F,d,b,hv,hb,q⟩:=h;obtain ⟨u,w',rfl,r1,r2⟩:=vals2 r;cases (show w'=Value.type T' from r2);have e:=zc (K:=X.K) hb;have fin:∀ tk,EP X pins σ Q (.bool b) { s with toks:=tk }:=fun tk=>⟨.bl b,H,I.tok _,rfl,q⟩;cases d with
  | none=>rw [Cs hv] at r1;cases (show u=Value.none from r1);exact Li PySem.W.kitx_none I.kIn True.intro e (fun z=>nomatch z) fin
  | bool y=>rw [vBl hv] at r1;cases (show u=Value.bool y from r1);exact Li PySem.W.kitx_bool I.kIn True.intro e (fun z=>nomatch z) fin
  | int i=>rw [vInt hv] at r1;obtain ⟨t,q⟩:=(show ∃ t,u=Value.int i t from r1);cases q;exact Li PySem.W.kitx_int I.kIn True.intro e (fun z=>nomatch z) fin
  | str y=>rw [(vStr hv).1] at r1;obtain ⟨t,q⟩:=(show ∃ t,u=Value.str y t from r1);cases q;exact Li PySem.W.kitx_str I.kIn True.intro e (fun z=>nomatch z) fin
  | list ds =>
   obtain ⟨a,xs,rfl,l,z,rs⟩:=lL hv;cases (show u=Value.ref a from r1);obtain ⟨its,rv,⟨o,k,h1,h2,h3,h4⟩,_⟩:=I.list l;exact Li PySem.W.kitx_list I.kIn ⟨o,h1,h2⟩ e (fun z=>nomatch z) fin
  | tuple ds =>
   obtain ⟨a,xs,rfl,l,z,rs⟩:=lN hv;cases (show u=Value.ref a from r1);obtain ⟨its,rv,⟨o,h1,h2,k,h4⟩,_⟩:=I.tuple l;exact Li PySem.W.kitx_tuple I.kIn ⟨o,h1,h2⟩ e (fun z=>nomatch z) fin
  | dict ds =>
   obtain ⟨a,rfl,ep,xs,ea,_⟩:=hv;cases (show u=Value.ref a from r1);obtain ⟨_,_,_,o,es,h1,h2,_⟩:=(show aQ X.prog X.w H s.heap a (.dD ep xs) from I.hok a _ ea);exact Li PySem.W.kitx_dict I.kIn ⟨o,h1,h2.1⟩ e (fun z=>nomatch z) fin
noncomputable def chars (x:Str):List PyData:=x.cps.toList.map fun c=>.str ⟨#[c]⟩
noncomputable def eG (x:Str):List V:=x.cps.toList.map fun c=>.str ⟨#[c]⟩
def Cy (K:Fg):V->Hp->VK->Prop:=fun x H Q=>CV K [x] H Q\/∃ z,x=.str z/\z.length<=sizeLine/\∀ p,H p=none->Q (.ref p) (upd H p (.lst (eG z)))
noncomputable def Bb:PyData->Option PR
 | .list xs=>some (.frs (.list xs))
 | .tuple xs=>some (.frs (.list xs))
 | .str x=>some (.frs (.list (chars x)))
 | _=>none
noncomputable def zt:Prm:=Prm.one Cy Bb fun K F H x u pr Q hf hx hd q=>by
 unfold Bb at hf;split at hf
 ·cases hf;obtain ⟨a,us,rfl,s1,z1,d1⟩:=lL hx;exact .inl ⟨a,us,rfl,.inl s1,fun p hp=>q _ _ (ar.nw _ hp) (zG hp z1 d1)⟩
 ·cases hf;obtain ⟨a,us,rfl,s1,z1,d1⟩:=lN hx;exact .inl ⟨a,us,rfl,.inr s1,fun p hp=>q _ _ (ar.nw _ hp) (zG hp z1 d1)⟩
 ·cases hf;obtain ⟨rfl,l1,o1⟩:=vStr hx;refine .inr ⟨_,rfl,l1,fun p hp=>q _ _ (ar.nw _ hp) (zG hp ?_ (xW (eJ o1)))⟩;rw [show (eG _).length=_ from Jt _];simpa [Str.length] using l1
 ·cases hf
theorem nQ:∀ {xs:List V} {us:List Value},xs.length=us.length->(∀ (i:Nat) (x:V) (u:Value),xs[i]?=some x->us[i]?=some u->RelV x u)->Vals xs us
 | [],[],_,_=>.nil
 | [],_ :: _,h,_=>by cases h
 | _ :: _,[],h,_=>by cases h
 | x :: xs,u :: us,h,q=>.cons (q 0 x u rfl rfl) (nQ (by simpa using h) fun i y w h1 h2=>q (i+1) y w (by simpa using h1) (by simpa using h2))
theorem oT {z:Str} {acc:Array Value} (h:ItemsOf (SignAt z) acc z.cps.size):Vals (eG z) acc.toList:=by
 refine nQ ?_ fun i x u h1 h2=>?_
 ·rw [show (eG z).length=_ from Jt _];simp [h.1]
 ·obtain ⟨c,t,hc,rfl⟩:=h.2 i u (by simpa using h2);unfold eG at h1;rw [JU] at h1;have:z.cps.toList[i]?=some c:=by rw [<- hc];simp
  rw [this] at h1;cases h1;exact ⟨t,rfl⟩
theorem kT {X:Cx} (hc:X.calm=true):aJ X (.type "list") (fun xs H Q=>∃ z,xs=[.str z]/\z.length<=sizeLine/\∀ p,H p=none->Q (.ref p) (upd H p (.lst (eG z)))):=by
 intro pins s σ H xs us Q I r h;obtain ⟨z,rfl,hl,q⟩:=h;obtain ⟨u,rfl,r1⟩:=vals1 r;obtain ⟨t,rfl⟩:=r1;have hz:(eG z).length<=sizeLine:=by rw [show (eG z).length=_ from Jt _];simpa [Str.length] using hl
 refine call_list_str (I.ok.hd hc) z t (fun h' tk acc' c' hk hS hacc=>?_) hl;refine ⟨.ref s.heap.objs.size,_,I.laid (t':=tk) hk (JH _) (show aQ X.prog X.w _ h' _ (.lst (eG z)) from ⟨hz,acc'.toList,c',?_,by rw [Array.toArray_toList];exact hS⟩),rfl,q _ (I.hok.fresh (JH _))⟩;exact oT hacc
theorem uy {X:Cx} {f:Value} {r r':List V->Hp->VK->Prop} (h:aJ X f r) (h':aJ X f r'):aJ X f (fun xs H Q=>r xs H Q\/r' xs H Q):=by
 intro pins s σ H xs us Q I rv q;rcases q with q | q
 ·exact h pins s σ H xs us Q I rv q
 ·exact h' pins s σ H xs us Q I rv q
theorem mY {X:Cx} (hc:X.calm=true):aJ X (.type "list") (zt.r X.K):=jd (uy oP (kT hc)) fun x H Q h=>h.imp id fun ⟨z,e,r⟩=>⟨z,by rw [e],r⟩
noncomputable def wg:PyData->Option PR
 | .list xs=>some (.dat (.tuple xs))
 | .tuple xs=>some (.dat (.tuple xs))
 | _=>none
noncomputable def rm:Prm:=Prm.one (fun K x=>vR K [x]) wg fun K F H x u pr Q hf hx hd q=>by
 unfold wg at hf;split at hf
 ·cases hf;obtain ⟨a,us,rfl,s1,z1,d1⟩:=lL hx;exact ⟨a,us,rfl,.inl ⟨s1,fun p hp=>q _ _ (ar.nw _ hp) (DN hp z1 d1)⟩⟩
 ·cases hf;obtain ⟨a,us,rfl,s1,z1,d1⟩:=lN hx;exact ⟨a,us,rfl,.inr ⟨s1,q _ H (ar.rf H) ⟨a,us,rfl,s1,z1,d1⟩⟩⟩
 ·cases hf
theorem kQ {X:Cx}:aJ X (.type "tuple") (rm.r X.K):=jd lU fun _ _ _ h=>h
theorem uz (s:String):PyData.strOk (Str.ofString s)=true:=by
 rw [Str.ofString_eq_toList];unfold PyData.strOk;rw [Array.all_eq_true'];intro c hc;have:c∈s.toList.map Char.toNat:=by simpa using hc
 obtain ⟨ch,_,rfl⟩:=Kh.mp this;have:=ch.valid;simp only [LZ];rcases this with h | ⟨_,h⟩
 ·show ch.val.toNat < _;have:ch.val.toNat < 0xD800:=h;omega
 ·exact h
noncomputable def gC:List PyData->Option (List Bool)
 | []=>some []
 | .bool b :: r=>match gC r with | some bs=>some (b :: bs) | none=>none
 | _ :: _=>none
theorem qI {K:Fg} {F:Addr->Prop} {H:Hp}:∀ {ds:List PyData} {xs:List V} {bs:List Bool},gC ds=some bs->DmL K F H ds xs->xs=bs.map V.bl
 | [],xs,bs,h,q=>by cases h;exact q
 | .bool b :: r,xs,bs,h,q=>by
  unfold gC at h;split at h
  ·rename_i bs' h';cases h;obtain ⟨v,vr,rfl,h1,h2⟩:=q;rw [qI h' h2,show v=.bl b from h1];rfl
  ·cases h
 | .none :: r,xs,bs,h,q=>by cases h
 | .int _ :: r,xs,bs,h,q=>by cases h
 | .str _ :: r,xs,bs,h,q=>by cases h
 | .list _ :: r,xs,bs,h,q=>by cases h
 | .tuple _ :: r,xs,bs,h,q=>by cases h
 | .dict _ :: r,xs,bs,h,q=>by cases h
noncomputable def DK:Prm:=Prm.one (fun K x=>Hr K [x]) (fun x=>match x with | .list ds=>(gC ds).map fun bs=>.dat (.bool (bs.all id)) | _=>none) fun K F H x u pr Q hf hx hd q=>by
 split at hf
 ·obtain ⟨bs,e,rfl⟩:=J7.mp hf;obtain ⟨a,us,rfl,s1,z1,d1⟩:=lL hx;rw [qI e d1] at s1;exact ⟨a,bs,rfl,s1,q _ H (ar.rf H) rfl⟩
 ·cases hf
theorem tM {X:Cx} (hc:X.calm=true):aJ X (.builtin "all") (DK.r X.K):=jd (qD hc) fun _ _ _ h=>h
theorem qv {K:Fg} {F:Addr->Prop} {H:Hp} {k:PyData}:∀ {ds:List (PyData×PyData)} {xs:List (PyData×V×V)},DmP K F H ds xs->(∀ d,getD ds k=some d->∃ v,pG xs k=some v/\Dm K F H d v)/\(getD ds k=none->pG xs k=none)
 | [],xs,h=>by
  rw [show xs=[] from h];exact ⟨fun d e=>(nomatch e),fun _=>rfl⟩
 | (k',d') :: ds,xs,h=>by
  obtain ⟨j,v,r,rfl,e,_,h1,h2⟩:=h;have ih:=qv (k:=k) h2;unfold getD pG at ih ⊢;rw [List.find?_cons,List.find?_cons];cases PyData.eqv k' k with
  | true=>exact ⟨fun d e=>(by cases e;exact ⟨v,rfl,h1⟩),fun e=>(nomatch e)⟩
  | false=>exact ih
mutual
theorem fI:∀ (d:PyData),hkB d=true->noD d=true
 | .int _,_=>rfl
 | .str _,_=>rfl
 | .tuple ds,h=>by rw [noD];exact tJ ds h
 | .none,h=>by cases h
 | .bool _,h=>by cases h
 | .list _,h=>by cases h
 | .dict _,h=>by cases h
theorem tJ:∀ (ds:List PyData),uo ds=true->dq ds=true
 | [],_=>rfl
 | d :: ds,h=>by
  simp only [uo,Kl] at h;rw [dq,fI d h.1,tJ ds h.2];rfl
end
theorem cw {d:PyData}:hk6 d=true↔hkB d=true/\d.depth<=6:=by simp [hk6]
theorem o6 {K:Fg} {F:Addr->Prop} {H:Hp} {d:PyData} {v:V} (h:Vw K F H d v) (hk:hk6 d=true):kyB d=true:=by
 rw [cw] at hk;exact aq.mpr ⟨hk.1,h.lay (fI d hk.1),hk.2⟩
theorem pb {X:Cx} {pins:List (Addr×Obj)} {σ:St} {s:Shared} {F:Addr->Prop} {H:Hp} (I:Inv X pins σ H s):∀ {ds:List (PyData×PyData)} {xs:List (PyData×V×V)},DmP X.K F H ds xs->fO s.heap xs
 | [],xs,h=>by rw [show xs=[] from h];intro x hx;cases hx
 | (k,d) :: ds,xs,h=>by
  obtain ⟨j,v,r,rfl,hk,h0,_,h2⟩:=h;intro x hx;rcases JV.mp hx with rfl | hx
  ·exact ⟨o6 h0.vw hk,fun u ru=>h0.reads I (fI _ (cw.mp hk).1) ru⟩
  ·exact pb I h2 x hx
def D2 (K:Fg) (H:Hp) (x y:V) (k:PyData) (a:Addr) (ep:Nat) (xs:List (PyData×V×V)):Prop:=∃ (F:Addr->Prop) (kvs:List (PyData×PyData)),x=.ref a/\H a=some (.dD ep xs)/\DmP K F H kvs xs/\Vw K F H k y/\hk6 k=true
noncomputable def AQ:PyData->PyData->Option PR
 | .dict kvs,k=>if hk6 k=true then (getD kvs k).map .dat else none
 | _,_=>none
def B9 (K:Fg):R2:=fun x y H Q=>∃ k a ep xs v,D2 K H x y k a ep xs/\pG xs k=some v/\Q v H
noncomputable def jG:Prm:=Prm.two B9 AQ fun K F H x y u v pr Q hf hx hy hd q=>by
 unfold AQ at hf;split at hf
 ·split at hf
  ·rename_i kvs _ hk;obtain ⟨d,e,rfl⟩:=J7.mp hf;obtain ⟨a,rfl,ep,xs,ea,_,r⟩:=hx;obtain ⟨w,ew,dw⟩:=(qv r).1 d e;exact ⟨_,a,ep,xs,w,⟨F,_,rfl,ea,r,hy,hk⟩,ew,q _ H (ar.rf H) dw⟩
  ·cases hf
 ·cases hf
def Gg (neg:Bool) (K:Fg):R2:=fun y x H Q=>∃ k a ep xs,D2 K H x y k a ep xs/\Q (.bl (if neg then !(pG xs k).isSome else (pG xs k).isSome)) H
noncomputable def tq (neg:Bool):Prm:=Prm.two (Gg neg) (fun k d=>match d with
  | .dict kvs=>if hk6 k=true then some (.dat (.bool (if neg then !(getD kvs k).isSome else (getD kvs k).isSome))) else none
  | _=>none) fun K F H y x v u pr Q hf hy hx hd q=>by
 split at hf
 ·rename_i kvs;split at hf
  ·rename_i hk;cases hf;obtain ⟨a,rfl,ep,xs,ea,_,r⟩:=hx;have g:=qv (k:=y) r;refine ⟨_,a,ep,xs,⟨F,kvs,rfl,ea,r,hy,hk⟩,q _ H (ar.rf H) ?_⟩;have e:(pG xs y).isSome=(getD kvs y).isSome:=by
    cases z:getD kvs y with
    | none=>rw [g.2 z];rfl
    | some d=>obtain ⟨w,ew,_⟩:=g.1 d z;rw [ew];rfl
   rw [e];cases neg <;> rfl
  ·cases hf
 ·cases hf
section
variable {X:Cx} {a b o i e value:Expr} {pos pos':Pos} {ta tb td ty tv:TE}
theorem lC (hu:X.A.units+64 < cLine) (ho:JE X a ta) (hi:JE X b tb) (hs:Hx b):JE X (.Subscript a b pos) (tOp (fun x y=>jG.r X.K [x,y]) ta tb):=⟨by
 intro pins s σ H Q I h;refine xF PySem.F.slot_dict_getitem.lookup hs (thn (ho.h pins s σ H _ I h) fun u s1 ⟨x,H1,I1,rx,q1⟩=>thn (hi.h pins s1 σ H1 _ I1 q1) fun iv s2 ⟨y,H2,I2,ry,k,p,ep,xs,v,⟨F,kvs,ex,ea,r,hk,hk6'⟩,gv,q2⟩=>?_);subst ex;obtain rfl:u=Value.ref p:=rx;obtain ⟨as,rk⟩:=hk.reads I2 (fI _ (cw.mp hk6').1) ry
 exact ⟨(fi I2 ea).1,z9 (by omega) I2 ea (pb I2 r) rk (o6 hk hk6') gv fun t w' rw'=>⟨v,H2,I2.tok t,rw',q2⟩⟩⟩
theorem A5 (hu:X.A.units+64 < cLine) (hi:PE X i ty) (ho:PE X o td):PC X .In i o (tOp (fun x y=>(tq false).r X.K [x,y]) ty td):=by
 intro pins s σ H Q I h;refine thn (hi pins s σ H _ I h) fun iv s1 ⟨y,H1,I1,ry,q1⟩=>thn (ho pins s1 σ H1 _ I1 q1) fun u s2 ⟨x,H2,I2,rx,k,p,ep,xs,⟨F,kvs,ex,ea,r,hk,hk6'⟩,q2⟩=>?_;subst ex;obtain rfl:u=Value.ref p:=rx;obtain ⟨as,rk⟩:=hk.reads I2 (fI _ (cw.mp hk6').1) ry;refine Jp (m:=contains (.ref p) iv) (Ap (by omega) I2 ea (pb I2 r) rk (o6 hk hk6') fun t=>?_);exact Jw ⟨.bl _,H2,I2.tok t,rfl,q2⟩
theorem sy (hu:X.A.units+64 < cLine) (hi:PE X i ty) (ho:PE X o td):PC X .NotIn i o (tOp (fun x y=>(tq true).r X.K [x,y]) ty td):=by
 intro pins s σ H Q I h;refine thn (hi pins s σ H _ I h) fun iv s1 ⟨y,H1,I1,ry,q1⟩=>thn (ho pins s1 σ H1 _ I1 q1) fun u s2 ⟨x,H2,I2,rx,k,p,ep,xs,⟨F,kvs,ex,ea,r,hk,hk6'⟩,q2⟩=>?_;subst ex;obtain rfl:u=Value.ref p:=rx;obtain ⟨as,rk⟩:=hk.reads I2 (fI _ (cw.mp hk6').1) ry;refine Jp (m:=contains (.ref p) iv) (Ap (by omega) I2 ea (pb I2 r) rk (o6 hk hk6') fun t=>?_);exact Jw ⟨.bl _,H2,I2.tok t,rfl,q2⟩
theorem GF (hu:X.A.units+64 < cLine) (ha:JE X a ta) (hb:JE X b tb) (hm:behindInMarks .In b=false):JT X (.Compare a [.In] [b] pos) (tB (tOp (fun x y=>(tq false).r X.K [x,y]) ta tb)):=⟨wI (A5 hu ha.h hb.h) hm⟩
theorem m6 (hu:X.A.units+64 < cLine) (ha:JE X a ta) (hb:JE X b tb) (hm:behindInMarks .NotIn b=false):JT X (.Compare a [.NotIn] [b] pos) (tB (tOp (fun x y=>(tq true).r X.K [x,y]) ta tb)):=⟨wI (sy hu ha.h hb.h) hm⟩
theorem y7:JE X (.Dict [] [] pos) vU:=⟨vg⟩
theorem AX {keys:List (Option Expr)} {values:List Expr} {trs:List (TE×TE)} (h:JP X pos keys values trs) (hall:keys.all (·.isSome)=true) (hl:keys.length=values.length) (h0:keys≠[]) (h15:keys.length<=15):JE X (.Dict keys values pos) (qt trs):=⟨uV h.h hall hl h0 h15⟩
end
theorem wB {K:Fg} {F:Addr->Prop} {H:Hp}:∀ {ds:List (PyData×PyData)} {xs:List (PyData×V×V)},DmP K F H ds xs->xs.length=ds.length
 | [],xs,h=>by rw [show xs=[] from h];rfl
 | (k,d) :: ds,xs,h=>by obtain ⟨j,v,r,rfl,_,_,_,h2⟩:=h;rw [J2,J2,wB h2]
theorem EC {K:Fg} {F:Addr->Prop} {H:Hp} {d:PyData} {v:V} (h:Vw K F H d v) (hk:hk6 d=true):Dm K F H d v:=by
 cases d with
 | list ds=>cases hk
 | dict ds=>cases hk
 | _=>exact h
noncomputable def kU:vT where
 r:=fun K o y x H Q=>∃ k a ep xs,D2 K H o y k a ep xs/\xs.length < sizeLine/\∀ ep',Q (upd H a (.dD ep' (mZ xs k y x)))
 f:=fun d k x=>match d with
  | .dict kvs=>if hk6 k=true/\kvs.length < sizeLine then some (.dict (putD kvs k x)) else none
  | _=>none
 ok:=fun K F H d a k x vk vx d' Q hf ha ht hk hx q=>by
  split at hf
  ·split at hf
   ·rename_i kvs h;cases hf;obtain ⟨ep,xs,ea,z,r⟩:=ht;have hlen:xs.length < sizeLine:=by rw [wB r];exact h.2
    refine ⟨k,a,ep,xs,⟨F,kvs,rfl,ea,r,hk,h.1⟩,hlen,fun ep'=>q _ (fun b o n e=>by rw [ai n];exact e) ?_⟩;have p:Pr F H (upd H a (.dD ep' (mZ xs k vk vx))):=fun b o e n=>by
     by_cases y:b=a
     ·subst y;rcases n with n | n
      ·exact absurd ha n
      ·rw [ea] at e;cases e;cases n
     ·rw [ai y];exact e
    exact ⟨_,_,af,by have:=nO (xs:=xs) (k:=k) (j:=vk) (v:=vx);omega,(wJ r h.1 (EC hk h.1) hx).pr p fun _ z=>z⟩
   ·cases hf
  ·cases hf
def Hb (K:Fg) (td ty tv:TE):TS:=fun D σ H=>tv σ H fun v H1=>td σ H1 fun x H2=>ty σ H2 fun y H3=>kU.r K x y v H3 (D.nx σ)
theorem oW {X:Cx} {o i value:Expr} {pos pos':Pos} {td ty tv:TE} (hu:X.A.units+64 < cLine) (ho:JE X o td) (hi:JE X i ty) (hv:JE X value tv) (hs:swapsWith value (some (.Subscript o i pos')) pos.line X.env=pure false) :
  JS X (.Assign [.Subscript o i pos'] value pos) (Hb X.K td ty tv):=⟨by
 intro pins s σ H D I h;refine wpAny_Assign_Subscript (thn (hv.h pins s σ H _ I h) fun r s1 ⟨v,H1,I1,rv,q1⟩=>thn (ho.h pins s1 σ H1 _ I1 q1) fun u s2 ⟨x,H2,I2,rx,q2⟩=>thn (hi.h pins s2 σ H2 _ I2 q2) fun iv s3 ⟨y,H3,I3,ry,k,p,ep,xs,⟨F,kvs,ex,ea,r,hk,hk6'⟩,hl,q3⟩=>?_) hs;subst ex;obtain rfl:u=Value.ref p:=rx;obtain ⟨as,rk⟩:=hk.reads I3 (fI _ (cw.mp hk6').1) ry
 exact Fq (by omega) I3 ea (pb I3 r) rk (o6 hk hk6') ry rv hl fun ep' s4 I4=>⟨σ,_,I4,q3 ep'⟩⟩
theorem rY {F:Addr->Prop} {H:Hp} {a:Addr} {o o':HO} (ha:F a) (e:H a=some o') (w:Wr o'=true):Pr F H (upd H a o):=fun b u q n=>by
 by_cases y:b=a
 ·subst y;rcases n with n | n
  ·exact absurd ha n
  ·rw [e] at q;cases q;rw [n] at w;cases w
 ·rw [ai y];exact q
theorem zU {K:Fg} {F:Addr->Prop} {H:Hp} {d:PyData} {a:Addr} (h:isL d=true) (t:Top K F H d a):tyV K "list" (.ref a) H:=by
 cases d with
 | list ds=>obtain ⟨xs,e,_⟩:=t;exact .inl ⟨rfl,xs,.inl (.inl e)⟩
 | _=>cases h
noncomputable def Hi:Mtr where
 T := "list"
 r:=fun _=>qV
 ty:=isL
 f:=fun d as=>match d,as with
  | .list xs,[(true,x)]=>if xs.length < sizeLine then some (.list (xs++[x]),.none) else none
  | _,_=>none
 AR:=fun K F H d a h t=>zU h t
 ok:=fun K F H d a as vs d' x Q hf ha ht hv q=>by
  split at hf
  ·split at hf
   ·rename_i hl;cases hf;obtain ⟨v,r,rfl,hv,rfl⟩:=hv;obtain ⟨xs,ea,z,rx⟩:=ht;refine ⟨a,xs,v,rfl,rfl,ea,by rw [rx.len];exact hl,q _ _ (fun b o n e=>by rw [ai n];exact e) ⟨_,af,by rw [Jr,rx.len];simp;omega,(rx.snoc hv).pr (rY ha ea rfl) fun _ z=>z⟩ rfl⟩
   ·cases hf
  ·cases hf
theorem wK {K:Fg} {F:Addr->Prop} {H:Hp}:∀ {ns:List Int},DmL K F H (ns.map .int) (ns.map .int)
 | []=>rfl
 | n :: ns=>⟨_,_,rfl,rfl,wK⟩
theorem Dd {f:Fn} {K:Fg} {H:Hp} {a:Addr} {ns:List Int} (hm:f.ms=[.dat]) (hl:ns.length<=63) (hS:SqL K H a (ns.map V.int)) (hF:f.F [.list (ns.map .int)]=some (.dat (.bool true),[])):cE f K [.ref a] H (fun v _=>v=.bl true) fun _ _ _=>False:=by
 refine ⟨fun _=>False,[.list (ns.map .int)],[],.dat (.bool true),[],hF,?_,fun _ h=>absurd h id,fun v' H' _ r=>r.1⟩;rw [hm];refine ⟨⟨a,ns.map .int,rfl,?_,?_,wK⟩,rfl⟩
 ·rcases hS with hS | hS
  ·exact .inl ⟨id,hS⟩
  ·exact .inr hS
 ·rw [Jt];exact Ka hl (by decide)
open PySem PySem.Spec PyProof.Rows
noncomputable def o3 (d:PyData):Bool:=noD d&&decide (d.depth<=32)
noncomputable def tG (ds:List PyData) (x:PyData):Bool:=ds.any fun d=>PyData.eqv d x
noncomputable def ngB (neg b:Bool):Bool:=if neg then !b else b
def Jf (neg:Bool) (K:Fg):R2:=rOr (fun x y H Q=>∃ i j,x=.str i/\y=.str j/\Q (.bl (ngB neg (!(Builtin.Str.occurrences j i 0 j.length 1).isEmpty))) H)
 fun x y H Q=>∃ (p:Addr) (xs:List V) (F:Addr->Prop) (d:PyData) (ds:List PyData),y=.ref p/\(SqL K H p xs\/SqT K H p xs)/\Vw K F H d x/\DmL K F H ds xs/\o3 d=true/\dq ds=true/\Q (.bl (ngB neg (tG ds d))) H
noncomputable def inD (neg:Bool):PyData->PyData->Option PR
 | .str i,.str j=>some (.dat (.bool (ngB neg (!(Builtin.Str.occurrences j i 0 j.length 1).isEmpty))))
 | x,.list ds=>if o3 x=true/\dq ds=true then some (.dat (.bool (ngB neg (tG ds x)))) else none
 | x,.tuple ds=>if o3 x=true/\dq ds=true then some (.dat (.bool (ngB neg (tG ds x)))) else none
 | _,_=>none
noncomputable def HR (neg:Bool):Prm:=Prm.two (Jf neg) (inD neg) fun K F H x y u v pr Q hf hx hy hd q=>by
 unfold inD at hf;split at hf
 ·cases hf;exact .inl ⟨_,_,(vStr hx).1,(vStr hy).1,q _ H (ar.rf H) rfl⟩
 ·split at hf
  ·rename_i h;cases hf;obtain ⟨a,us,rfl,s1,z1,d1⟩:=lL hy;exact .inr ⟨a,us,F,_,_,rfl,.inl s1,hx,d1,h.1,h.2,q _ H (ar.rf H) rfl⟩
  ·cases hf
 ·split at hf
  ·rename_i h;cases hf;obtain ⟨a,us,rfl,s1,z1,d1⟩:=lN hy;exact .inr ⟨a,us,F,_,_,rfl,.inr s1,hx,d1,h.1,h.2,q _ H (ar.rf H) rfl⟩
  ·cases hf
 ·cases hf
noncomputable abbrev inP:Prm:=HR false
noncomputable abbrev pW:Prm:=HR true
open Classical in
noncomputable def eqR (h:Heap) (x:PyData) (u:Value):Bool:=if q:∃ d as,Reads h u d as then PyData.eqv (Classical.choose q) x else false
theorem wX {h:Heap} {x d:PyData} {u:Value} {as:List Addr} (r:Reads h u d as):eqR h x u=PyData.eqv d x:=by
 have q:∃ d as,Reads h u d as:=⟨d,as,r⟩;unfold eqR;rw [dif_pos q];obtain ⟨bs,r2⟩:=Classical.choose_spec q;rw [(PySem.Reads.unique r _ _ r2).1]
section
variable {X:Cx} {pins:List (Addr×Obj)} {σ:St} {s:Shared} {H:Hp} {F:Addr->Prop}
theorem gH (I:Inv X pins σ H s) (x:PyData):∀ {ds:List PyData} {xs:List V} {us:List Value},DmL X.K F H ds xs->dq ds=true->Vals xs us->us.any (eqR s.heap x)=tG ds x
 | [],xs,us,h,_,r=>by rw [show xs=[] from h] at r;cases r;rfl
 | d :: ds,xs,us,h,n,r=>by
  obtain ⟨v,t,rfl,h1,h2⟩:=h;have n':noD d=true/\dq ds=true:=by simpa [dq] using n
  cases r with
  | cons r1 r2 =>
   obtain ⟨as,ra⟩:=h1.reads I n'.1 r1;rw [L4,wX ra,gH I x h2 n'.2 r2];rfl
theorem gY (I:Inv X pins σ H s) {A:Around} {x:PyData} {b:Value} {bs:List Addr} (rb:Reads s.heap b x bs) (hb:x.canLay0=true) (hu:A.units+x.depth < cLine):∀ {ds:List PyData} {xs:List V} {us:List Value},DmL X.K F H ds xs->dq ds=true->Vals xs us->∀ u∈us,SeqAt.EqAt A s u b (eqR s.heap x u)
 | [],xs,us,h,_,r=>by rw [show xs=[] from h] at r;cases r;intro u hu;cases hu
 | d :: ds,xs,us,h,n,r=>by
  obtain ⟨v,t,rfl,h1,h2⟩:=h;have n':noD d=true/\dq ds=true:=by simpa [dq] using n
  cases r with
  | cons r1 r2 =>
   intro u hm;rcases JV.mp hm with rfl | hm
   ·obtain ⟨as,ra⟩:=h1.reads I n'.1 r1;rw [wX ra];exact SeqAt.eqAt_reads d x A s _ b as bs ra rb (h1.lay n'.1) hb (by omega)
   ·exact gY I rb hb hu h2 n'.2 r2 u hm
end
theorem BU {X:Cx} (hu:X.A.units+64 < cLine):OpR X (compareOp .In) (fun x y=>inP.r X.K [x,y]):=by
 refine orR Am ?_;intro pins s σ H x y v u Q I rx ry h;obtain ⟨p,xs,F,d,ds,rfl,hq,hd,hs,o1,o2,q⟩:=h;have o1':noD d=true/\d.depth<=32:=by simpa [o3] using o1
 cases ry;obtain ⟨bs,rb⟩:=hd.reads I o1'.1 rx;rcases hq with hq | hq
 ·obtain ⟨its,r,pl,hz⟩:=I.list hq;refine SeqAt.in_listAt (eqR s.heap d) pl.isList (fun w hw=>gY I rb (hd.lay o1'.1) (by have:X.A.in1.units=X.A.units+1:=rfl;omega) hs o2 r w (by simpa using hw)) ⟨.bl _,H,I,rfl,?_⟩;rw [show its.toArray.any (eqR s.heap d)=its.any (eqR s.heap d) by simp,gH I d hs o2 r];exact q
 ·obtain ⟨its,r,pl,hz⟩:=I.tuple hq;refine SeqAt.in_tupleAt (eqR s.heap d) pl (fun w hw=>gY I rb (hd.lay o1'.1) (by have:X.A.in1.units=X.A.units+1:=rfl;omega) hs o2 r w (by simpa using hw)) ⟨.bl _,H,I,rfl,?_⟩;rw [show its.toArray.any (eqR s.heap d)=its.any (eqR s.heap d) by simp,gH I d hs o2 r];exact q
theorem sJ {X:Cx} (hu:X.A.units+64 < cLine):OpR X (compareOp .NotIn) (fun x y=>pW.r X.K [x,y]):=by
 refine orR qN ?_;intro pins s σ H x y v u Q I rx ry h;obtain ⟨p,xs,F,d,ds,rfl,hq,hd,hs,o1,o2,q⟩:=h;have o1':noD d=true/\d.depth<=32:=by simpa [o3] using o1
 cases ry;obtain ⟨bs,rb⟩:=hd.reads I o1'.1 rx;rcases hq with hq | hq
 ·obtain ⟨its,r,pl,hz⟩:=I.list hq;refine SeqAt.notIn_listAt (eqR s.heap d) pl.isList (fun w hw=>gY I rb (hd.lay o1'.1) (by have:X.A.in1.units=X.A.units+1:=rfl;omega) hs o2 r w (by simpa using hw)) ⟨.bl _,H,I,rfl,?_⟩;rw [show its.toArray.any (eqR s.heap d)=its.any (eqR s.heap d) by simp,gH I d hs o2 r];exact q
 ·obtain ⟨its,r,pl,hz⟩:=I.tuple hq;refine SeqAt.notIn_tupleAt (eqR s.heap d) pl (fun w hw=>gY I rb (hd.lay o1'.1) (by have:X.A.in1.units=X.A.units+1:=rfl;omega) hs o2 r w (by simpa using hw)) ⟨.bl _,H,I,rfl,?_⟩;rw [show its.toArray.any (eqR s.heap d)=its.any (eqR s.heap d) by simp,gH I d hs o2 r];exact q
open PySem PySem.Spec PyProof.Rows
noncomputable def FQ (ww:World):Bool:=ww.params.followText "set-order"
structure IX (ww:World) (tb:SetTable) (n:Nat):Prop where
 fit:tb.fits n=true
 led:tb.led=!FQ ww
 pln:n≠0->tb.plain=false
def EO (pr:Program) (ww:World) (h:Heap) (a:Addr) (ss:List Str):Prop :=
 ∃ ob es ep tb,h.get? a=some ob/\ob.ExactSet/\ob.data=.set es ep tb/\ElemsOf (strKind pr ww) es.toList/\(∃ zs,StrsAre (es.toList.map (·.2)) zs/\zs.Perm ss)/\es.size < scanBound/\IX ww tb es.size
open PySem PySem.Spec PyProof.Rows
noncomputable def Im (X:Cx) (p:Addr) (ss:List Str):HO:=.ext fun h=>EO X.prog X.w h p ss
open PySem PySem.Spec PyProof.Rows
section
variable {X:Cx} {pins:List (Addr×Obj)} {σ:St} {H:Hp} {s:Shared}
theorem zR {sc:Scope} {g:Str} (h:sc.names.lookup g=none):¬Vis sc g:=fun z=>by rcases z with z | z | z <;> (rw [h] at z;cases z)
end
open PySem PySem.Spec PyProof.Rows
noncomputable def yr:Prm where
 r:=fun _ vs H Q=>match vs with | []=>∀ p,H p=none->Q (.ref p) (upd H p (.dD 0 [])) | _=>False
 f:=fun ds=>match ds with | []=>some (.frs (.dict [])) | _=>none
 ok:=fun K F H ds vs pr Q hf hv hd q=>by
  match ds,hf with
  | [],hf =>
   cases hf;rw [show vs=[] from hv];exact fun p hp=>q _ _ (ar.nw _ hp) ⟨p,rfl,hp,0,[],af,KA _,rfl⟩
open PySem PySem.Spec PyProof.Rows
noncomputable def iN {α:Type} (n:Nat) (xs:List α):List α:=(List.replicate n xs).flatten
theorem m4 {α:Type} (n:Nat) (xs:List α):(iN n xs).length=n*xs.length:=by
 unfold iN;induction n with
 | zero=>simp
 | succ n ih=>rw [List.replicate_succ,LG,Jr,ih,Nat.succ_mul,Nat.add_comm]
theorem HX (n:Nat) (vs:List Value):List.foldl (fun x1 x2:Array Value=>x1++x2) #[] (List.replicate n vs.toArray)=(iN n vs).toArray:=by
 have:∀ (n:Nat) (acc:List Value),List.foldl (fun x1 x2:Array Value=>x1++x2) acc.toArray (List.replicate n vs.toArray)=(acc++iN n vs).toArray:=by
  intro n;induction n with
  | zero=>intro acc;simp [iN]
  | succ n ih =>
   intro acc;rw [List.replicate_succ,List.foldl_cons];have e:acc.toArray++vs.toArray=(acc++vs).toArray:=by simp
   rw [e,ih];unfold iN;rw [List.replicate_succ,LG,J0]
 have:=this n [];simpa using this
theorem my {xs:List V} {vs:List Value} (r:Vals xs vs):∀ n,Vals (iN n xs) (iN n vs)
 | 0=>.nil
 | n+1=>by
  unfold iN;rw [List.replicate_succ,List.replicate_succ,LG,LG];exact r.append (my r n)
theorem tP (l:Addr) (items:Array Value) (n:Nat) (dd:Option Addr) (sl:Array (Option Value)) (x:Int) (u:Tok) (hc0:¬(!Builtin.List.listFitsIndex x)=true) (hc1:¬items.size*x.toNat > (2 ^ 63 - 1) / 8) (hc2:¬Builtin.List.listTooLong (items.size*x.toNat)=true) :
  Meets (Builtin.«list.__mul__» ⟨[.ref l,.int x u],[]⟩) (fun _ R s=>s.heap.get? l=some { cls:=.type "list", dict:=dd,data:=.seq items n,slots:=sl }/\R (.ok (.ret (Value.ref s.heap.objs.size))) { s with heap:=s.heap.push { cls:=Value.type "list", data:=Data.seq (List.foldl (fun x1 x2=>x1++x2) #[] (List.replicate (if items.isEmpty=true then 0 else x.toNat) items)) },toks:=s.toks }) :=
 .of_wp fun prog w A R s h=>by
  obtain ⟨hp,g,d,tk,os⟩:=s;obtain ⟨hl,h⟩:=h;have hsz:=AutoListH.joined_fits hc2
  wp_walk;refine Lz (J3 (Nat.not_lt.mpr hsz)) ?_;wp_walk;exact ⟨_,rfl,h⟩
theorem qw (a:Int) (t:Tok) (l:Addr) (items:Array Value) (n:Nat) (dd:Option Addr) (sl:Array (Option Value)) :
  Meets (Builtin.«int.__rmul__» ⟨[.int a t,.ref l],[]⟩) (fun _ R s=>s.heap.get? l=some { cls:=.type "list", dict:=dd,data:=.seq items n,slots:=sl }/\R (.ok (.ret Value.notImplemented)) s) :=
 .of_wp fun prog w A R s h=>by obtain ⟨hp,g,d,tk,os⟩:=s;obtain ⟨hl,h⟩:=h;wp_walk;exact ⟨_,rfl,h⟩
theorem tZ (a:Int) (t:Tok) (l:Addr) (items:Array Value) (n:Nat) (dd:Option Addr) (sl:Array (Option Value)) :
  Meets (Builtin.«int.__rmul__» ⟨[.int a t,.ref l],[]⟩) (fun _ R s=>s.heap.get? l=some { cls:=.type "tuple", dict:=dd,data:=.seq items n,slots:=sl }/\R (.ok (.ret Value.notImplemented)) s) :=
 .of_wp fun prog w A R s h=>by obtain ⟨hp,g,d,tk,os⟩:=s;obtain ⟨hl,h⟩:=h;wp_walk;exact ⟨_,rfl,h⟩
theorem fR:fillsNumberSlot (.type "tuple") "mul" = pure false :=
 PySem.fillsNumberSlot_seq (id := "tuple.__mul__") (r:=some (.builtin "tuple.__rmul__")) F.slot_tuple_mul.lookup (by decide +kernel) F.slot_tuple_rmul.lookup (by decide +kernel)
theorem kP:seqRepeat? (.type "tuple")=pure (some (.builtin "tuple.__mul__")):=by
 unfold seqRepeat?;rw [PySem.seqSlot_of (T := "tuple") (name := "__mul__") (id := "tuple.__mul__") F.slot_tuple_mul.lookup (by decide +kernel),PySem.seqSlot_of (T := "tuple") (name := "__rmul__") (id := "tuple.__rmul__") F.slot_tuple_rmul.lookup (by decide +kernel)];rfl
theorem oK (l:Addr) (items:Array Value) (n:Nat) (dd:Option Addr) (sl:Array (Option Value)) (u:Tok) (h0:items.isEmpty=false) :
  Meets (Builtin.«tuple.__mul__» ⟨[.ref l,.int 0 u],[]⟩) (fun _ R s=>s.heap.get? l=some { cls:=.type "tuple", dict:=dd,data:=.seq items n,slots:=sl }/\R (.ok (.ret (Value.ref s.heap.objs.size))) { s with heap:=s.heap.push { cls:=Value.type "tuple", data:=Data.seq #[] },toks:=s.toks }) :=
 .of_wp fun prog w A R s h=>by obtain ⟨hp,g,d,tk,os⟩:=s;obtain ⟨hl,h⟩:=h;wp_walk;exact ⟨_,rfl,h⟩
theorem pv (l:Addr) (items:Array Value) (n:Nat) (dd:Option Addr) (sl:Array (Option Value)) (u:Tok) :
  Meets (Builtin.«tuple.__mul__» ⟨[.ref l,.int 1 u],[]⟩) (fun _ R s=>s.heap.get? l=some { cls:=.type "tuple", dict:=dd,data:=.seq items n,slots:=sl }/\R (.ok (.ret (Value.ref l))) s) :=
 .of_wp fun prog w A R s h=>by obtain ⟨hp,g,d,tk,os⟩:=s;obtain ⟨hl,h⟩:=h;wp_walk;exact ⟨_,rfl,h⟩
theorem pQ (l:Addr) (items:Array Value) (n:Nat) (dd:Option Addr) (sl:Array (Option Value)) (x:Int) (u:Tok) (h0:items.isEmpty=false) (h1:2<=x) (h2:(items.size:Int)*x<=1000) :
  Meets (Builtin.«tuple.__mul__» ⟨[.ref l,.int x u],[]⟩) (fun _ R s=>s.heap.get? l=some { cls:=.type "tuple", dict:=dd,data:=.seq items n,slots:=sl }/\R (.ok (.ret (Value.ref s.heap.objs.size))) { s with heap:=s.heap.push { cls:=Value.type "tuple", data:=Data.seq (List.foldl (fun x1 x2=>x1++x2) #[] (List.replicate x.toNat items)) },toks:=s.toks }) :=
 .of_wp fun prog w A R s h=>by
  obtain ⟨hp,g,d,tk,os⟩:=s;obtain ⟨hl,h⟩:=h;have hz:1<=items.size:=by
   rcases Nat.eq_zero_or_pos items.size with z | z
   ·rw [Array.isEmpty,z] at h0;cases h0
   ·exact z
  have hx:x<=1000:=by
   have:x<=(items.size:Int)*x:=by
    have:=Int.mul_le_mul_of_nonneg_right (show (1:Int)<=items.size by omega) (show 0<=x by omega);omega
   omega
  have e1:(decide (x < -(2 ^ 63))||decide (x>=2 ^ 63))=false:=by simp;omega
  have e2:(items.isEmpty||x==1)=false:=by rw [h0];simp;omega
  have e3:(decide (x<=0)||items.isEmpty)=false:=by rw [h0];simp;omega
  have e4:¬(items.size:Int)*x > (2 ^ 63 - 1) / 8:=by omega
  have e5:Builtin.Tuple.tupleTooMany ((items.size:Int)*x)=false:=by unfold Builtin.Tuple.tupleTooMany;rw [Ku];simp;omega
  wp_walk
  refine Lz (by rw [e1];rfl) ?_
  wp_walk
  refine Lz (by rw [e2];rfl) ?_
  wp_walk
  refine Lz (by rw [e3];rfl) ?_;refine Lz (J3 e4) ?_;refine Lz (by rw [e5];rfl) ?_
  wp_walk
  refine Lz (J3 ?_) ?_
  ·rw [AutoListH.size_joined,Ku];have:((x.toNat*items.size:Nat):Int)=(items.size:Int)*x:=by
    rw [Int.natCast_mul,LP (by omega),Int.mul_comm]
   simp only [JR,KN];omega
  wp_walk
  exact ⟨_,rfl,h⟩
def B6 (K:Fg):R2:=fun x y H Q=>∃ (a:Addr) (xs:List V) (n:Int),x=.ref a/\y=.int n/\0<=n/\(xs.length:Int)*n<=1000/\n<=1000/\((SqL K H a xs/\∀ p,H p=none->Q (.ref p) (upd H p (.lst (iN n.toNat xs))))\/(SqT K H a xs/\xs≠[]/\(n=1->Q (.ref a) H)/\(n≠1->∀ p,H p=none->Q (.ref p) (upd H p (.tup (iN n.toNat xs))))))
theorem jB {α:Type} {xs:List α} {n:Int} (h0:0<=n) (h:(xs.length:Int)*n<=1000):(iN n.toNat xs).length<=1000:=by
 rw [m4];have:((n.toNat*xs.length:Nat):Int)=(xs.length:Int)*n:=by rw [Int.natCast_mul,LP h0,Int.mul_comm]
 omega
theorem yU {X:Cx}:OpR X (binaryOp .Mult) (B6 X.K):=by
 intro pins s σ H x y v u Q I rx ry h;obtain ⟨a,xs,n,rfl,rfl,h0,hz,hn,hL | ⟨hT,hne,q1,q2⟩⟩:=h
 ·obtain ⟨hL,q⟩:=hL;cases rx;obtain ⟨t,rfl⟩:=ry;obtain ⟨its,r,p,_⟩:=I.list hL;obtain ⟨⟨cls,dd,data,sl⟩,k,ho,hc,hd0,hd⟩:=p;simp only at hc hd;subst hc hd;have hsz:(its.toArray.size:Int)*n<=1000:=by rw [JR,<-r.length];exact hz
  have hsz2:its.toArray.size*n.toNat<=1000:=by
   have:((its.toArray.size*n.toNat:Nat):Int)=(its.toArray.size:Int)*n:=by rw [Int.natCast_mul,LP h0]
   omega
  refine wpAny_binaryOp_repeat_ref (T := "list") (U := "int") (by decide) ⟨_,ho,rfl⟩ (fun s'=>typeIs_int s' n t) noFill_list_mul F.fills_int_mul F.slot_int_rmul repeat_list F.slot_int_index.lookup
   (L9 F.slot_int_rmul (typeIs_int s n t) F.entry_int_rmul (F.args_int_rmul_2 _ _) (qw n t a its.toArray k dd sl)
   ⟨ho,rfl,⟨_,ho,rfl⟩,L9 F.slot_list_mul ⟨_,ho,rfl⟩ F.entry_list_mul (F.args_list_mul_2 _ _)
    (tP a its.toArray k dd sl n t (by simp [Builtin.List.listFitsIndex];omega) (by omega) (by simp [Builtin.List.listTooLong,sizeLine] at hsz2 ⊢;omega))
    ⟨ho,?_⟩⟩)
  have e:List.foldl (fun x1 x2:Array Value=>x1++x2) #[] (List.replicate (if its.toArray.isEmpty=true then 0 else n.toNat) its.toArray)=(iN n.toNat its).toArray:=by
   split
   ·rename_i c;have:its=[]:=by simpa using c
    subst this;have:∀ m,iN m ([]:List Value)=[]:=fun m=>List.length_eq_zero_iff.mp (by rw [m4];simp);rw [this];rfl
   ·exact HX _ _
  rw [e];refine ⟨.ref _,_,I.Hj (t':=s.toks) (my r n.toNat) ?_,rfl,q _ I.fresh⟩;have:=jB (xs:=xs) h0 hz;rw [Ku];omega
 ·cases rx;obtain ⟨t,rfl⟩:=ry;obtain ⟨its,r,p,_⟩:=I.tuple hT;obtain ⟨⟨cls,dd,data,sl⟩,ho,hc,k,hd⟩:=p;simp only at hc hd;subst hc hd;have hit:its≠[]:=fun z=>hne (r.iF.mp z);have hie:its.toArray.isEmpty=false:=by simpa using hit
  have go:∀ {R:Value->Shared->Prop},wpAny (model X.prog X.w) X.A (call (.builtin "tuple.__mul__") [.ref a,.int n t]) R X.xe s->wpAny (model X.prog X.w) X.A (binaryOp .Mult (.ref a) (.int n t)) R X.xe s:=fun hh =>
   wpAny_binaryOp_repeat_ref (T := "tuple") (U := "int") (by decide) ⟨_,ho,rfl⟩ (fun s'=>typeIs_int s' n t) fR F.fills_int_mul F.slot_int_rmul kP F.slot_int_index.lookup
    (L9 F.slot_int_rmul (typeIs_int s n t) F.entry_int_rmul (F.args_int_rmul_2 _ _) (tZ n t a its.toArray k dd sl) ⟨ho,rfl,⟨_,ho,rfl⟩,hh⟩)
  refine go ?_;by_cases h1:n=1
  ·subst h1;exact L9 F.slot_tuple_mul ⟨_,ho,rfl⟩ F.entry_tuple_mul (F.args_tuple_mul_2 _ _) (pv a its.toArray k dd sl t) ⟨ho,.ref a,H,I,rfl,q1 rfl⟩
  ·by_cases h2:n=0
   ·subst h2;refine L9 F.slot_tuple_mul ⟨_,ho,rfl⟩ F.entry_tuple_mul (F.args_tuple_mul_2 _ _) (oK a its.toArray k dd sl t hie) ⟨ho,?_⟩;refine ⟨.ref s.heap.objs.size,_,I.laid (t':=s.toks) (o:=.tup []) (fun b ob q=>JN _ q) (JH _) ?_,rfl,q2 h1 _ (I.hok.fresh (JH _))⟩;exact ⟨KA _,[],.nil,IsTup.new _ _⟩
   ·refine L9 F.slot_tuple_mul ⟨_,ho,rfl⟩ F.entry_tuple_mul (F.args_tuple_mul_2 _ _) (pQ a its.toArray k dd sl n t hie (by omega) (by rw [JR,<-r.length];exact hz)) ⟨ho,?_⟩;rw [HX];refine ⟨.ref s.heap.objs.size,_,I.laid (t':=s.toks) (o:=.tup (iN n.toNat xs)) (fun b ob q=>JN _ q) (JH _) ?_,rfl,q2 h1 _ (I.hok.fresh (JH _))⟩;refine ⟨?_,_,my r n.toNat,IsTup.new _ _⟩;have:=jB (xs:=xs) h0 hz;rw [Ku];omega
theorem DmL.rep {K:Fg} {F:Addr->Prop} {H:Hp} {ds:List PyData} {xs:List V} (h:DmL K F H ds xs):∀ n,DmL K F H (iN n ds) (iN n xs)
 | 0=>rfl
 | n+1=>by
  unfold iN;rw [List.replicate_succ,List.replicate_succ,LG,LG];exact h.app (DmL.rep h n)
noncomputable def HL:PyData->PyData->Option PR
 | .list xs,.int n=>if 0<=n/\(xs.length:Int)*n<=1000/\n<=1000 then some (.frs (.list (iN n.toNat xs))) else none
 | .tuple (x :: xs),.int n=>if 0<=n/\((x :: xs).length:Int)*n<=1000/\n<=1000 then some (.dat (.tuple (iN n.toNat (x :: xs)))) else none
 | _,_=>none
theorem vi {α:Type} (xs:List α):iN 1 xs=xs:=by simp [iN]
noncomputable def Ih:Prm:=Prm.two B6 HL fun K F H x y u v pr Q hf hx hy hd q=>by
 unfold HL at hf;split at hf
 ·split at hf
  ·rename_i xs n h;cases hf;obtain ⟨a,us,rfl,s1,z1,d1⟩:=lL hx;rw [vInt hy];refine ⟨a,us,n,rfl,rfl,h.1,by rw [d1.len];exact h.2.1,h.2.2,.inl ⟨s1,fun p hp=>q _ _ (ar.nw _ hp) (zG hp ?_ (d1.rep _))⟩⟩;have:=jB (xs:=us) h.1 (by rw [d1.len];exact h.2.1);rw [Ku];omega
  ·cases hf
 ·split at hf
  ·rename_i x xs n h;cases hf;obtain ⟨a,us,rfl,s1,z1,d1⟩:=lN hx;rw [vInt hy];have hne:us≠[]:=fun z=>by rw [z] at d1;obtain ⟨v,r,e,_⟩:=d1;cases e
   refine ⟨a,us,n,rfl,rfl,h.1,by rw [d1.len];exact h.2.1,h.2.2,.inr ⟨s1,hne,fun e=>?_,fun _ p hp=>q _ _ (ar.nw _ hp) (DN hp ?_ (d1.rep _))⟩⟩
   ·subst e;exact q _ H (ar.rf H) ⟨a,us,rfl,s1,z1,by rw [show (1:Int).toNat=1 from rfl,vi];exact d1⟩
   ·have:=jB (xs:=us) h.1 (by rw [d1.len];exact h.2.1);rw [Ku];omega
  ·cases hf
 ·cases hf
theorem x5 {X:Cx}:OpR X (binaryOp .Mult) (fun x y=>Ih.r X.K [x,y]):=yU
theorem pJ (t b:Addr) (items2:Array Value) (n n2:Nat) (dd dd2:Option Addr) (sl sl2:Array (Option Value)) :
  Meets (Builtin.«tuple.__add__» ⟨[.ref t,.ref b],[]⟩) (fun _ R s=>s.heap.get? t=some { cls:=.type "tuple", dict:=dd,data:=.seq #[] n,slots:=sl }/\s.heap.get? b=some { cls:=.type "tuple", dict:=dd2,data:=.seq items2 n2,slots:=sl2 }/\R (.ok (.ret (Value.ref b))) s) :=
 .of_wp fun prog w A R s h=>by obtain ⟨hp,g,d,tk,os⟩:=s;obtain ⟨hl,hb,h⟩:=h;have f1:=AutoSeq1.idx_int;have f2:=AutoSeq1.sub_tuple_tuple;have f3:=AutoSeq1.sub_list_list;have f4:=AutoSeq1.sub_tuple_list;have f5:=AutoSeq1.sub_list_tuple;wp_walk using LM hl,LM hb;exact ⟨_,rfl,h⟩
def BZ (K:Fg):R2:=fun x y H Q=>∃ (a b:Addr) (ys:List V),x=.ref a/\y=.ref b/\SqT K H a []/\SqT K H b ys/\Q (.ref b) H
theorem zi {X:Cx}:OpR X (binaryOp .Add) (BZ X.K):=by
 intro pins s σ H x y v u Q I rx ry h;obtain ⟨a,b,ys,rfl,rfl,ha,hb,q⟩:=h;cases rx;cases ry;obtain ⟨its,r1,p1,_⟩:=I.tuple ha;obtain ⟨its2,r2,p2,_⟩:=I.tuple hb;have e0:its=[]:=r1.iF.mpr rfl;subst e0;obtain ⟨⟨cls,dd,data,sl⟩,ho,hc,n,hd⟩:=p1;obtain ⟨⟨cls2,dd2,data2,sl2⟩,ho2,hc2,n2,hd2⟩:=p2;simp only at hc hd hc2 hd2;subst hc hd hc2 hd2;exact concat_meets ⟨_,ho,rfl⟩ ⟨_,ho2,rfl⟩ noFill_tuple_add seq_tuple_add PySem.F.slot_tuple_add PySem.F.entry_tuple_add (PySem.F.args_tuple_add_2 _ _)
  (pJ a b its2.toArray n n2 dd dd2 sl sl2) ⟨ho,ho2,.ref b,H,I,rfl,q⟩
noncomputable def AW:PyData->PyData->Option PR
 | .tuple [],.tuple ys=>some (.dat (.tuple ys))
 | x,y=>Fz x y
noncomputable def yy:Prm:=Prm.two (fun K=>rOr (B0 K) (BZ K)) AW fun K F H x y u v pr Q hf hx hy hd q=>by
 unfold AW at hf;split at hf
 ·cases hf;obtain ⟨a,us,rfl,s1,z1,d1⟩:=lN hx;obtain ⟨b,ws,rfl,s2,z2,d2⟩:=lN hy;rw [show us=[] from d1] at s1;exact .inr ⟨a,b,ws,rfl,rfl,s1,s2,q _ H (ar.rf H) ⟨b,ws,rfl,s2,z2,d2⟩⟩
 ·exact .inl (lK.ok K F H [x,y] [u,v] pr Q hf ⟨u,_,rfl,hx,v,_,rfl,hy,rfl⟩ hd q)
theorem vp {X:Cx}:OpR X (binaryOp .Add) (fun x y=>yy.r X.K [x,y]):=orR aO zi
theorem IQ {X:Cx} {e:Expr} {te:TE} {T:String} {p p2 pos:Pos} (hg:Gl X "isinstance") (hm:X.mg "isinstance" = none) (ha:JE X e te) (hs:PySem.W.isStarred e=false) (hb:JE X (.Name (Str.ofString T) p2) (tC (.ty T))):JE X (.Call (.Name "isinstance" p) [e,.Name (Str.ofString T) p2] [] pos) (tCB ((lQ T).r X.K) (aR te gp)) :=
 ⟨(eB zB hg hm (by decide +kernel) (eA ha (eA hb aj rfl) hs) hs rfl (by decide) rfl).h⟩
open PySem
structure Kn where
 nx:En->Prop
 rt:RV->En->Prop
 bk:En->Prop
 ct:En->Prop
def Kn.at (E:Kn):Out->Prop | .nx e=>E.nx e | .rt r e=>E.rt r e | .bk e=>E.bk e | .ct e=>E.ct e
def WS (gd:List PyData) (s:XS) (env:En) (E:Kn):Prop:=∃ o,dS gd s env=some o/\E.at o
def WE (gd:List PyData) (e:XE) (env:En) (Q:RV->En->Prop):Prop:=∃ r e',dE gd e env=some (r,e')/\Q r e'
def WA (gd:List PyData) (e:XA) (env:En) (Q:List AV->En->Prop):Prop:=∃ r e',dA gd e env=some (r,e')/\Q r e'
def WT (gd:List PyData) (e:XT) (env:En) (Q:Bool->En->Prop):Prop:=∃ r e',dT gd e env=some (r,e')/\Q r e'
def WI (gd:List PyData) (e:XI) (env:En) (Q:List PyData->Option Nat->En->Prop):Prop:=∃ ds lk e',dI gd e env=some (ds,lk,e')/\Q ds lk e'
def WF (f:Fn) (ds:List PyData) (Q:PR->List PyData->Prop):Prop:=∃ pr outs,f.F ds=some (pr,outs)/\Q pr outs
def WPr (p:Prm) (avs:List AV) (e:En) (Q:RV->En->Prop):Prop:=∃ ds pr,aE e avs=some ds/\p.f ds=some pr/\Q pr.rv e
def Bd (i:Nat) (r:RV) (e:En) (N:En->Prop):Prop:=∃ d,r.av=.dat d/\free e i=true/\N (e.set i (.dat d))
def tK (i:Nat) (r:RV) (e:En) (N:En->Prop):Prop:=∃ d,r=.frs d/\free e i=true/\N (e.set i (.own d))
def FE (b:PyData->En->Option Out) (ds:List PyData) (lk:Option Nat) (e1:En) (E:Kn):Prop:=∃ o,forL b ds (bq e1 lk)=some o/\E.at (o.map (lkd e1 lk) (ak e1 lk))
def oU (f:Fn) (avs:List AV) (e:En) (Q:RV->En->Prop):Prop:=∃ rv e',uB f avs e=some (rv,e')/\Q rv e'
def ze (ms:List PM) (QF:PR->List PyData->Prop) (r:RV) (e:En):Prop:=∃ pr outs,r.pr=some pr/\ij ms e=some outs/\QF pr outs
def mO (ms:List PM) (QF:PR->List PyData->Prop) (e:En):Prop:=∃ outs,ij ms e=some outs/\QF (.dat .none) outs
def BA (m:vT) (i:Nat) (v:PyData) (rk:RV) (e2:En) (N:En->Prop):Prop:=∃ dk d d',rk.view e2=some dk/\aC e2 i=some d/\m.f d dk v=some d'/\N (fH e2 i d')
def DO (gd:List PyData) (m:vT) (i:Nat) (a:XE) (r:RV) (e:En) (N:En->Prop):Prop:=∃ v,r.av=.dat v/\(aC e i).isSome=true/\WE gd a e fun rk e2=>BA m i v rk e2 N
def DX (m:Mtd) (r:RV) (avs:List AV) (e2:En) (Q:RV->En->Prop):Prop:=∃ d ds pr,r.view e2=some d/\aE e2 avs=some ds/\m.f d ds=some pr/\Q pr.rv e2
def D1 (gd:List PyData) (m:Mtd) (as:XA) (r:RV) (e:En) (Q:RV->En->Prop):Prop:=∃ d0,r.view e=some d0/\m.ty d0=true/\WA gd as e fun avs e2=>DX m r avs e2 Q
def WMr (m:Mtr) (i:Nat) (avs:List AV) (e2:En) (Q:RV->En->Prop):Prop:=∃ d ds d' x,aC e2 i=some d/\c5 e2 avs=some ds/\m.f d ds=some (d',x)/\Q (.dat x) (fH e2 i d')
def WTp (mk:List PyData->RV) (avs:List AV) (e:En) (Q:RV->En->Prop):Prop:=∃ ds,ke avs=some ds/\ds.length<=sizeLine/\Q (mk ds) e
def DZ (is:List Nat) (r:RV) (e:En) (N:En->Prop):Prop:=∃ ds e2,r.av=.dat (.tuple ds)/\eK e is ds=some e2/\N e2
section
variable {gd:List PyData} {env e1:En} {E:Kn} {Q:RV->En->Prop} {QA:List AV->En->Prop} {QT:Bool->En->Prop} {QI:List PyData->Option Nat->En->Prop} {i:Nat} {d:PyData} {a b c:XE} {as:XA} {s t:XS} {p:Prm} {f:Fn} {x y:XT}
theorem cJ {ms:List PM} {n:Nat} {ds:List PyData} {QF:PR->List PyData->Prop} (hl:ds.length=ms.length) (h:WS gd s (ah ms ds n) ⟨mO ms QF,ze ms QF,fun _=>False,fun _=>False⟩):WF (cM gd ms n s) ds QF:=by
 obtain ⟨o,ho,q⟩:=h;unfold WF cM;simp only;rw [JB hl,ho];cases o with
 | nx e=>obtain ⟨outs,h1,h2⟩:=q;simp only [h1];exact ⟨_,_,rfl,h2⟩
 | rt r e=>obtain ⟨pr,outs,h1,h2,h3⟩:=q;simp only [h1,h2];exact ⟨_,_,rfl,h3⟩
 | bk e=>exact absurd q id
 | ct e=>exact absurd q id
theorem ph (h:WS gd s env { E with nx:=fun e=>WS gd t e E }):WS gd (.seq s t) env E:=by
 obtain ⟨o,ho,q⟩:=h;unfold WS;simp only [dS,ho];cases o with
 | nx e=>exact q
 | rt r e=>exact ⟨_,rfl,q⟩
 | bk e=>exact ⟨_,rfl,q⟩
 | ct e=>exact ⟨_,rfl,q⟩
theorem tU (h:∀ N:En->Prop,N=(fun e=>WS gd t e E)->WS gd s env { E with nx:=N }):WS gd (.seq s t) env E:=ph (h _ rfl)
theorem uk {e:En} {x y:AV} {i:Int} {xs:List PyData} (h1:aE e [x,y]=some [.list xs,.int i]) (h:atI xs i=some d) (q:Q (.dat d) e):WPr ixP [x,y] e Q:=⟨_,.dat d,h1,by show (atI xs i).map PR.dat=_;rw [h];rfl,q⟩
theorem qb {e:En} {x y:AV} {i:Int} {xs:List PyData} (h1:aE e [x,y]=some [.tuple xs,.int i]) (h:atI xs i=some d) (q:Q (.dat d) e):WPr ixP [x,y] e Q:=⟨_,.dat d,h1,by show (atI xs i).map PR.dat=_;rw [h];rfl,q⟩
theorem yN {e:En} {x y:AV} {i:Int} {z:Str} {c:Nat} (h1:aE e [x,y]=some [.str z,.int i]) (h:atI z.cps.toList i=some c) (q:Q (.dat (.str ⟨#[c]⟩)) e):WPr ixP [x,y] e Q:=⟨_,.dat (.str ⟨#[c]⟩),h1,by show (atI z.cps.toList i).map _=_;rw [h];rfl,q⟩
theorem Aa (h:E.nx env):WS gd .skip env E:=⟨_,rfl,h⟩
theorem GD (h:E.bk env):WS gd .brk env E:=⟨_,rfl,h⟩
theorem D6 (h:E.ct env):WS gd .cnt env E:=⟨_,rfl,h⟩
theorem Cz (h:E.rt (.dat .none) env):WS gd .DP env E:=⟨_,rfl,h⟩
theorem Br (h:WE gd a env fun r e=>Bd i r e E.nx):WS gd (.bz i a) env E:=by
 obtain ⟨r,e',h1,d,h2,h3,h4⟩:=h;unfold WS;simp only [dS,h1,h2];rw [JB h3];exact ⟨_,rfl,h4⟩
theorem Dp (h:WE gd a env fun r e=>tK i r e E.nx):WS gd (.u0 i a) env E:=by
 obtain ⟨r,e',h1,d,rfl,h3,h4⟩:=h;unfold WS;simp only [dS,h1];rw [JB h3];exact ⟨_,rfl,h4⟩
theorem DA {is:List Nat} (h:WE gd a env fun r e=>DZ is r e E.nx):WS gd (.Bk is a) env E:=by
 obtain ⟨r,e',h1,ds,e2,h2,h3,h4⟩:=h;unfold WS;simp only [dS,h1,h2,h3];exact ⟨_,rfl,h4⟩
theorem BB (h:WE gd a env fun _ e=>E.nx e):WS gd (.drop a) env E:=by
 obtain ⟨r,e',h1,h2⟩:=h;unfold WS;simp only [dS,h1];exact ⟨_,rfl,h2⟩
theorem Fj (h:WE gd a env E.rt):WS gd (.ret a) env E:=by
 obtain ⟨r,e',h1,h2⟩:=h;unfold WS;simp only [dS,h1];exact ⟨_,rfl,h2⟩
theorem GS (h:WT gd x env fun b e=>if b=true then WS gd s e E else WS gd t e E):WS gd (.ifs x s t) env E:=by
 obtain ⟨b,e',h1,h2⟩:=h;unfold WS;simp only [dS,h1];cases b with
 | true=>exact h2
 | false=>exact h2
theorem Iy {it:XI} (h:WI gd it env fun ds lk e=>FE (i3 i (dS gd s)) ds lk e E):WS gd (.fr i it s) env E:=by
 obtain ⟨ds,lk,e',h1,o,h2,h3⟩:=h;unfold WS;simp only [dS,h1,h2];exact ⟨_,rfl,h3⟩
theorem E2 {is:List Nat} {it:XI} (h:WI gd it env fun ds lk e=>FE (g7 is (dS gd s)) ds lk e E):WS gd (.frT is it s) env E:=by
 obtain ⟨ds,lk,e',h1,o,h2,h3⟩:=h;unfold WS;simp only [dS,h1,h2];exact ⟨_,rfl,h3⟩
theorem Hf {m:vT} (h:WE gd b env fun r e=>DO gd m i a r e E.nx):WS gd (.sto m i a b) env E:=by
 obtain ⟨r,e',h1,v,h2,h3,rk,e2,h4,dk,d,d',h5,h6,h7,h8⟩:=h;obtain ⟨d0,hd0⟩:=Option.isSome_iff_exists.mp h3;unfold WS;simp only [dS,h1,h2,hd0,h4,h5,h6,h7];exact ⟨_,rfl,h8⟩
theorem Jd {n:Nat} (Inv:Nat->En->Prop) (m:Nat) (hm:m < n) (h0:Inv m env) (hs:∀ k e,k<=m->Inv k e->WT gd x e fun b e1=>if b=true then WS gd s e1 ⟨fun e2=>∃ j,j < k/\Inv j e2,E.rt,E.nx,fun e2=>∃ j,j < k/\Inv j e2⟩ else E.nx e1):WS gd (.wh n x s) env E:=by
 unfold WS;simp only [dS];induction n generalizing m env with
 | zero=>omega
 | succ n ih =>
  unfold whL;obtain ⟨b,e1,h1,h2⟩:=hs m env (JH _) h0;rw [h1];cases b with
  | false=>exact ⟨_,rfl,h2⟩
  | true =>
   rw [JB rfl] at h2;obtain ⟨o,h3,h4⟩:=h2;simp only [h3];have step:∀ e2,(∃ j,j < m/\Inv j e2)->∃ o,whL (dT gd x) (dS gd s) n e2=some o/\E.at o:=fun e2 ⟨j,hj,hi⟩=>ih j (by omega) hi fun k e hk=>hs k e (by omega);cases o with
   | nx e=>exact step e h4
   | ct e=>exact step e h4
   | bk e=>exact ⟨_,rfl,h4⟩
   | rt r e=>exact ⟨_,rfl,h4⟩
theorem w_var (h:env[i]?=some (.dat d)) (q:Q (.dat d) env):WE gd (.var i) env Q:=⟨_,_,by simp only [dE,h],q⟩
theorem zL (h:env[i]?=some (.own d)) (q:Q (.bor i) env):WE gd (.var i) env Q:=⟨_,_,by simp only [dE,h],q⟩
theorem BX (h:env[i]?=some (.ino d)) (q:Q (.bor i) env):WE gd (.var i) env Q:=⟨_,_,by simp only [dE,h],q⟩
theorem Ac (h:env[i]?=some (.ro d)) (q:Q (.bor i) env):WE gd (.var i) env Q:=⟨_,_,by simp only [dE,h],q⟩
theorem He (h:env[i]?=some (.own d)) (q:Q (.dat d) (env.set i (.dat d))):WE gd (.mov i) env Q:=⟨_,_,by simp only [dE,h],q⟩
theorem Ex (h:env[i]?=some (.own d)) (q:Q (.frs d) (env.set i .un)):WE gd (.tke i) env Q:=⟨_,_,by simp only [dE,h],q⟩
theorem D3 {c:Cst} (q:Q (.dat c.d) env):WE gd (.cst c) env Q:=⟨_,_,rfl,q⟩
theorem Hg {g:Nat} (h:gd[g]?=some d) (q:Q (.dat d) env):WE gd (.glb g) env Q:=⟨_,_,by simp only [dE,h],q⟩
theorem Ff (h:WA gd as env fun avs e=>WPr p avs e Q):WE gd (.prm p as) env Q:=by
 obtain ⟨avs,e',h1,ds,pr,h2,h3,h4⟩:=h;exact ⟨_,_,by simp only [dE,h1,h2,h3],h4⟩
theorem z4 (h:WA gd as env fun avs e=>oU f avs e Q):WE gd (.call f as) env Q:=by
 obtain ⟨avs,e',h1,rv,e2,h2,h3⟩:=h;exact ⟨_,_,by simp only [dE,h1];exact h2,h3⟩
theorem ae {avs:List AV} {ds:List PyData} {is:List Nat} (h1:iO e1 f.ms avs=some ds) (h2:cg f.ms avs=is) (h:WF f ds fun pr outs=>ckA is (tY f.ms avs) outs.length=true/\Q pr.rv (cK e1 is outs)):oU f avs e1 Q:=by
 obtain ⟨pr,outs,h3,h4,h5⟩:=h;subst h2;unfold oU uB;simp only [h1,h3];rw [JB h4];exact ⟨_,_,rfl,h5⟩
theorem F4 {m:Mtd} {o:XE} (h:WE gd o env fun r e=>D1 gd m as r e Q):WE gd (.met m o as) env Q:=by
 obtain ⟨r,e',h1,d0,h2,h3,avs,e2,h4,d,ds,pr,h5,h6,h7,h8⟩:=h;exact ⟨_,_,by simp only [dE,h1,h2];rw [JB h3];simp only [h4,h5,h6,h7],h8⟩
theorem Hd {m:Mtr} (h0:aC env i=some d) (h1:m.ty d=true) (h:WA gd as env fun avs e2=>WMr m i avs e2 Q):WE gd (.mtr m i as) env Q:=by
 obtain ⟨avs,e2,h4,d,ds,d',x,h5,h6,h7,h8⟩:=h;exact ⟨_,_,by simp only [dE,h0];rw [JB h1];simp only [h4,h5,h6,h7],h8⟩
theorem zT (h:WA gd as env fun avs e=>WTp (fun ds=>.dat (.tuple ds)) avs e Q):WE gd (.tup as) env Q:=by
 obtain ⟨avs,e2,h4,ds,h5,h6,h7⟩:=h;exact ⟨_,_,by simp only [dE,h4,h5];rw [JB h6],h7⟩
theorem CN (h:WA gd as env fun avs e=>WTp (fun ds=>.frs (.list ds)) avs e Q):WE gd (.lst as) env Q:=by
 obtain ⟨avs,e2,h4,ds,h5,h6,h7⟩:=h;exact ⟨_,_,by simp only [dE,h4,h5];rw [JB h6],h7⟩
theorem Gj (h:WT gd x env fun k e=>if k=true then WE gd a e Q else WE gd b e Q):WE gd (.ifx x a b) env Q:=by
 obtain ⟨k,e',h1,h2⟩:=h;unfold WE;simp only [dE,h1];cases k with
 | true=>exact h2
 | false=>exact h2
theorem zY (h:WE gd a env fun r e=>∃ k,r=.dat (.bool k)/\if k=true then WE gd b e Q else Q (.dat (.bool false)) e):WE gd (.uj a b) env Q:=by
 obtain ⟨r,e',h1,k,rfl,h2⟩:=h;unfold WE;cases k with
 | true=>simp only [dE,h1];exact h2
 | false=>simp only [dE,h1];exact ⟨_,_,rfl,h2⟩
theorem EH (h:WE gd a env fun r e=>∃ k,r=.dat (.bool k)/\if k=true then Q (.dat (.bool true)) e else WE gd b e Q):WE gd (.orv a b) env Q:=by
 obtain ⟨r,e',h1,k,rfl,h2⟩:=h;unfold WE;cases k with
 | true=>simp only [dE,h1];exact ⟨_,_,rfl,h2⟩
 | false=>simp only [dE,h1];exact h2
theorem BG (h:WE gd a env fun r e=>∃ k,r=.dat (.bool k)/\Q (.dat (.bool (!k))) e):WE gd (.xK a) env Q:=by
 obtain ⟨r,e',h1,k,rfl,h2⟩:=h;exact ⟨_,_,by simp only [dE,h1],h2⟩
theorem Eo {p':Prm} (h:WE gd a env fun r e=>WE gd b e fun r2 e2=>∃ x y k,r.av=.dat x/\r2.av=.dat y/\p.f [x,y]=some (.dat (.bool k))/\if k=true then WE gd c e2 fun r3 e3=>∃ z pr,r3.av=.dat z/\p'.f [y,z]=some pr/\Q pr.rv e3 else Q (.dat (.bool false)) e2):WE gd (.chn p p' a b c) env Q:=by
 obtain ⟨r,e',h1,r2,e2,h2,x,y,k,h3,h4,h5,h6⟩:=h;unfold WE;cases k with
 | true =>
  rw [JB rfl] at h6;obtain ⟨r3,e3,h7,z,pr,h8,h9,h10⟩:=h6;simp only [dE,h1,h2,h3,h4,h5,h7,h8,h9];exact ⟨_,_,rfl,h10⟩
 | false =>
  rw [Jz (by decide)] at h6;simp only [dE,h1,h2,h3,h4,h5];exact ⟨_,_,rfl,h6⟩
theorem Gs {g:Int->Int->Prm} (h:WE gd a env fun r e=>WE gd b e fun r2 e2=>∃ i,r2=.dat (.int i)/\WE gd c e2 fun r3 e3=>∃ j,r3=.dat (.int j)/\∃ d pr,r.view e3=some d/\(g i j).f [d]=some pr/\Q pr.rv e3):WE gd (.sl2 g a b c) env Q:=by
 obtain ⟨r,e',h1,r2,e2,h2,i,rfl,r3,e3,h3,j,rfl,d,pr,h4,h5,h6⟩:=h;exact ⟨_,_,by simp only [dE,h1,h2,h3,h4,h5],h6⟩
def GQ (st:PyData->En->Option (Option PyData×En)) (js:List Nat) (ds:List PyData) (lk:Option Nat) (e1:En) (Q:RV->En->Prop):Prop :=
 ∃ ys ec,uq st ds (du e1 lk js)=some (ys,ec)/\Q (.frs (.list ys)) (aD e1 js ec)
theorem Gm {js:List Nat} {it:XI} (hn:zq js=true) (h:WI gd it env fun ds lk e1=>GQ (gZ (dT gd x) (dE gd a)) js ds lk e1 Q):WE gd (.cmp js it x a) env Q:=by
 obtain ⟨ds,lk,e1,h1,ys,ec,h2,h3⟩:=h;refine ⟨_,_,?_,h3⟩;simp only [dE,h1];rw [JB (fW hn),h2]
theorem Bc {n:List Str} {js:List Nat} {it:XI} (hn:zq js=true) (h:WI gd it env fun ds lk e1=>GQ (jt n.length (dE gd a)) js ds lk e1 Q):WE gd (.Ci n js it a) env Q:=by
 obtain ⟨ds,lk,e1,h1,ys,ec,h2,h3⟩:=h;refine ⟨_,_,?_,h3⟩;simp only [dE,h1];rw [JB (fW hn),h2]
def y4 (st:PyData->En->Option (Option PyData×En)) (d:PyData) (ec:En) (Q:Option PyData->En->Prop):Prop:=∃ y e,st d ec=some (y,e)/\Q y e
theorem ig {QS:Option PyData->En->Prop} {ec:En} (h:WT gd x (.dat d :: ec) fun k e2=>if k=true then WE gd a e2 fun r e3=>∃ y,r.av=.dat y/\QS (some y) e3.tail else QS none e2.tail):y4 (gZ (dT gd x) (dE gd a)) d ec QS:=by
 obtain ⟨k,e2,h1,h2⟩:=h;unfold y4 gZ;rw [h1];cases k with
 | true =>
  rw [JB rfl] at h2;obtain ⟨r,e3,h3,y,h4,h5⟩:=h2;simp only [h3,h4];exact ⟨_,_,rfl,h5⟩
 | false =>
  rw [Jz (by decide)] at h2;exact ⟨_,_,rfl,h2⟩
theorem dW {st:PyData->En->Option (Option PyData×En)} {js:List Nat} {ds:List PyData} {lk:Option Nat} (Inv:Nat->List PyData->En->Prop) (h0:Inv 0 [] (du e1 lk js))
  (hs:∀ i d ys ec,ds[i]?=some d->Inv i ys ec->y4 st d ec fun y e=>Inv (i+1) (ys++y.toList) e)
  (hq:∀ ys ec,Inv ds.length ys ec->Q (.frs (.list ys)) (aD e1 js ec)):GQ st js ds lk e1 Q:=by
 have key:∀ (rest:List PyData) (i:Nat) (ys:List PyData) (ec:En),ds.drop i=rest->i<=ds.length->Inv i ys ec->∃ zs ec',uq st rest ec=some (zs,ec')/\Inv ds.length (ys++zs) ec':=by
  intro rest;induction rest with
  | nil =>
   intro i ys ec hd hi hI;have:ds.length<=i:=List.drop_eq_nil_iff.mp hd;have:i=ds.length:=by omega
   subst this;exact ⟨[],ec,rfl,by rw [Kj];exact hI⟩
  | cons d rest ih =>
   intro i ys ec hd hi hI;have hlt:i < ds.length:=by
    apply Lu;intro h;rw [List.drop_eq_nil_iff.mpr (by omega)] at hd;cases hd
   rw [KO hlt] at hd;injection hd with hd1 hd2;obtain ⟨y,e,h1,h2⟩:=hs i d ys ec (by rw [Jq hlt,hd1]) hI;obtain ⟨zs,ec',h3,h4⟩:=ih (i+1) _ e hd2 hlt h2;refine ⟨y.toList++zs,ec',?_,by rw [<- J0];exact h4⟩;unfold uq;simp only [h1,h3]
 obtain ⟨zs,ec,h1,h2⟩:=key ds 0 [] _ rfl (KA _) h0;exact ⟨zs,ec,h1,hq zs ec h2⟩
def WB (b:PyData->En->Option Out) (d:PyData) (e:En) (E:Kn):Prop:=∃ o,b d e=some o/\E.at o
theorem GY {e:En} (hf:free e i=true) (h:WS gd s (e.set i (.dat d)) E):WB (i3 i (dS gd s)) d e E:=by
 obtain ⟨o,h1,h2⟩:=h;exact ⟨o,by unfold i3;rw [JB hf];exact h1,h2⟩
theorem BQ {e e2:En} {is:List Nat} {xs:List PyData} (hf:eK e is xs=some e2) (h:WS gd s e2 E):WB (g7 is (dS gd s)) (.tuple xs) e E:=by
 obtain ⟨o,h1,h2⟩:=h;exact ⟨o,by unfold g7;simp only [hf];exact h1,h2⟩
theorem gU {b:PyData->En->Option Out} {ds:List PyData} {lk:Option Nat} (Inv:Nat->En->Prop) (h0:Inv 0 (bq e1 lk))
  (hs:∀ i d e,ds[i]?=some d->Inv i e->WB b d e ⟨Inv (i+1),fun r e=>E.rt (r.soft (lkd e1 lk)) (ak e1 lk e),fun e=>E.nx (ak e1 lk e),Inv (i+1)⟩)
  (hq:∀ e,Inv ds.length e->E.nx (ak e1 lk e)):FE b ds lk e1 E:=by
 have key:∀ (rest:List PyData) (i:Nat) (e:En),ds.drop i=rest->i<=ds.length->Inv i e->∃ o,forL b rest e=some o/\E.at (o.map (lkd e1 lk) (ak e1 lk)):=by
  intro rest;induction rest with
  | nil =>
   intro i e hd hi hI;have:ds.length<=i:=List.drop_eq_nil_iff.mp hd;have:i=ds.length:=by omega
   subst this;exact ⟨_,rfl,hq e hI⟩
  | cons d rest ih =>
   intro i e hd hi hI;have hlt:i < ds.length:=by
    apply Lu;intro h;rw [List.drop_eq_nil_iff.mpr (by omega)] at hd;cases hd
   rw [KO hlt] at hd;injection hd with hd1 hd2;obtain ⟨o,h1,h2⟩:=hs i d e (by rw [Jq hlt,hd1]) hI;unfold forL;simp only [h1];cases o with
   | nx e'=>exact ih (i+1) e' hd2 hlt h2
   | ct e'=>exact ih (i+1) e' hd2 hlt h2
   | bk e'=>exact ⟨_,rfl,h2⟩
   | rt r e'=>exact ⟨_,rfl,h2⟩
 exact key ds 0 _ rfl (KA _) h0
theorem Fo (q:QA [] env):WA gd .nil env QA:=⟨_,_,rfl,q⟩
theorem Dj (h:WE gd a env fun r e=>WA gd as e fun avs e2=>QA (r.av :: avs) e2):WA gd (.cons a as) env QA:=by
 obtain ⟨r,e',h1,avs,e2,h2,h3⟩:=h;exact ⟨_,_,by simp only [dA,h1,h2],h3⟩
theorem D9 (h:WE gd a env fun r e=>∃ k,r=.dat (.bool k)/\QT k e):WT gd (.tst a) env QT:=by
 obtain ⟨r,e',h1,k,rfl,h2⟩:=h;exact ⟨_,_,by simp only [dT,h1],h2⟩
theorem GZ (h:WE gd a env fun r e=>∃ d,r.view e=some d/\EB d=false/\QT (FA d) e):WT gd (.tru a) env QT:=by
 obtain ⟨r,e',h1,d,h2,h4,h3⟩:=h;exact ⟨_,e',by simp only [dT,h1,h2,h4];rfl,h3⟩
theorem w_and (h:WT gd x env fun k e=>if k=true then WT gd y e QT else QT false e):WT gd (.and x y) env QT:=by
 obtain ⟨k,e',h1,h2⟩:=h;unfold WT;cases k with
 | true=>simp only [dT,h1];exact h2
 | false=>simp only [dT,h1];exact ⟨_,_,rfl,h2⟩
theorem w_or (h:WT gd x env fun k e=>if k=true then QT true e else WT gd y e QT):WT gd (.or x y) env QT:=by
 obtain ⟨k,e',h1,h2⟩:=h;unfold WT;cases k with
 | true=>simp only [dT,h1];exact ⟨_,_,rfl,h2⟩
 | false=>simp only [dT,h1];exact h2
theorem w_not (h:WT gd x env fun k e=>QT (!k) e):WT gd (.not x) env QT:=by
 obtain ⟨k,e',h1,h2⟩:=h;exact ⟨_,_,by simp only [dT,h1],h2⟩
theorem GL (h:QT true env):WT gd .yes env QT:=⟨_,_,rfl,h⟩
def BD (r:RV) (e:En) (QI:List PyData->Option Nat->En->Prop):Prop:=(∃ ds,r.av=.dat (.list ds)/\QI ds none e)\/∃ i ds,r.av=.bor i/\cont e i=some (.list ds)/\QI ds (some i) e
theorem Ig (h:WE gd a env fun r e=>BD r e QI):WI gd (.lst a) env QI:=by
 obtain ⟨r,e',h1,⟨ds,h2,h3⟩ | ⟨i,ds,h2,h3,h4⟩⟩:=h
 ·exact ⟨_,_,_,by simp only [dI,h1,h2],h3⟩
 ·exact ⟨_,_,_,by simp only [dI,h1,h2,h3],h4⟩
theorem uW {r:RV} {e:En} {ds:List PyData} (h:r.av=.dat (.list ds)) (q:QI ds none e):BD r e QI:=.inl ⟨ds,h,q⟩
theorem IK (h:WE gd a env fun r e=>∃ ds,r.av=.dat (.tuple ds)/\QI ds none e):WI gd (.tup a) env QI:=by
 obtain ⟨r,e',h1,ds,h2,h3⟩:=h;exact ⟨_,_,_,by simp only [dI,h1,h2],h3⟩
def WSq (r:RV) (e:En) (QI:List PyData->Option Nat->En->Prop):Prop:=BD r e QI\/∃ ds,r.av=.dat (.tuple ds)/\QI ds none e
theorem Jc (h:WE gd a env fun r e=>WSq r e QI):WI gd (.sq a) env QI:=by
 obtain ⟨r,e',h1,(⟨ds,h2,h3⟩ | ⟨i,ds,h2,h3,h4⟩) | ⟨ds,h2,h3⟩⟩:=h
 ·exact ⟨_,_,_,by simp only [dI,h1,h2],h3⟩
 ·exact ⟨_,_,_,by simp only [dI,h1,h2,h3],h4⟩
 ·exact ⟨_,_,_,by simp only [dI,h1,h2],h3⟩
theorem Je (h:WE gd a env fun r e=>∃ z,r.av=.dat (.str z)/\QI (z.cps.toList.map fun c=>.str ⟨#[c]⟩) none e):WI gd (.str a) env QI:=by
 obtain ⟨r,e',h1,ds,h2,h3⟩:=h;exact ⟨_,_,_,by simp only [dI,h1,h2],h3⟩
theorem Jl (h:WA gd as env fun avs e=>∃ j:Int,avs=[.dat (.int j)]/\(-(2 ^ 62)<=j/\j<=2 ^ 24)/\QI ((List.range j.toNat).map fun (k:Nat)=>.int ((0:Int)+(k:Int))) none e):WI gd (.rng1 as) env QI:=by
 obtain ⟨r,e',h1,j,rfl,h2,h3⟩:=h;exact ⟨_,_,_,by simp only [dI,h1];rw [JB h2],h3⟩
end
open PySem
theorem ux {e:En} {i:Nat} {s:Sl} (h:e[i]?=some s) (q:soft s):free e i=true:=by
 unfold free;rw [h];cases s with
 | ino d=>exact absurd rfl (q.1 d)
 | ro d=>exact absurd rfl (q.2 d)
 | _=>rfl
theorem GH:soft .un:=⟨fun _=>nofun,fun _=>nofun⟩
theorem FP {d:PyData}:soft (.dat d):=⟨fun _=>nofun,fun _=>nofun⟩
theorem Eb {d:PyData}:soft (.own d):=⟨fun _=>nofun,fun _=>nofun⟩
theorem E9 {e:En} {i:Nat} {avs:List AV} {xs:List PyData} {d:PyData} {Q:RV->En->Prop} (h1:aC e i=some (.list xs)) (h2:xs.length < sizeLine) (h3:c5 e avs=some [(true,d)]) (q:Q (.dat .none) (fH e i (.list (xs++[d])))):WMr Hi i avs e Q :=
 ⟨_,_,.list (xs++[d]),.none,h1,h3,by show (if xs.length < sizeLine then _ else _)=_;rw [JB h2],q⟩
theorem Cm {e:En} {x y:AV} {xs ys:List PyData} {Q:RV->En->Prop} (h1:aE e [x,y]=some [.list xs,.list ys]) (h2:xs.length+ys.length<=sizeLine) (q:Q (.frs (.list (xs++ys))) e):WPr lK [x,y] e Q :=
 ⟨_,.frs (.list (xs++ys)),h1,by show (if xs.length+ys.length<=sizeLine then _ else _)=_;rw [JB h2],q⟩
theorem Dh {e:En} {x y:AV} {xs ys:Str} {Q:RV->En->Prop} (h1:aE e [x,y]=some [.str xs,.str ys]) (h2:xs.length+ys.length<=sizeLine) (q:Q (.dat (.str (xs++ys))) e):WPr lK [x,y] e Q :=
 ⟨_,.dat (.str (xs++ys)),h1,by show (if xs.length+ys.length<=sizeLine then _ else _)=_;rw [JB h2],q⟩
theorem w_eq {e:En} {x y:AV} {d d':PyData} {Q:RV->En->Prop} (h1:aE e [x,y]=some [d,d']) (h2:fP d=true) (h3:fP d'=true) (q:Q (.dat (.bool (PyData.eqv d d'))) e):WPr eqP [x,y] e Q :=
 ⟨_,.dat (.bool (PyData.eqv d d')),h1,by show (if fP d=true/\fP d'=true then _ else _)=_;rw [JB ⟨h2,h3⟩];rfl,q⟩
theorem GN {e:En} {x y:AV} {d d':PyData} {Q:RV->En->Prop} (h1:aE e [x,y]=some [d,d']) (h2:fP d=true) (h3:fP d'=true) (q:Q (.dat (.bool (!PyData.eqv d d'))) e):WPr neP [x,y] e Q :=
 ⟨_,.dat (.bool (!PyData.eqv d d')),h1,by show (if fP d=true/\fP d'=true then _ else _)=_;rw [JB ⟨h2,h3⟩];rfl,q⟩
theorem ju {n i:Nat} {d:PyData} (h:((List.range n).map fun (k:Nat)=>PyData.int ((0:Int)+(k:Int)))[i]?=some d):d=.int i/\i < n:=by
 rw [JU] at h;cases q:(List.range n)[i]? with
 | none=>rw [q] at h;cases h
 | some j =>
  rw [q] at h;obtain ⟨hi,e⟩:=Js.mp q;rw [Kz] at hi;have:j=i:=by rw [<- e];simp
  subst this;cases h;exact ⟨by simp,hi⟩
theorem qG {n:Nat}:((List.range n).map fun (k:Nat)=>PyData.int ((0:Int)+(k:Int))).length=n:=by rw [Jt,Kz]
theorem atV {α:Type} {xs:List α} {r:Int} (h0:0<=r) (h1:r < xs.length):∃ v,v∈xs/\atI xs r=some v:=by
 have hj:r.toNat < xs.length:=by omega
 have ej:r=((r.toNat:Nat):Int):=by omega
 refine ⟨xs[r.toNat],L6 hj,?_⟩;have:=iu (xs:=xs) (j:=r.toNat) (v:=xs[r.toNat]) (Jq hj);rw [<- ej] at this;exact this
theorem uR {α:Type} {xs:List α} {k:Int} (h:0<=k):cutD xs none (some k)=xs.take k.toNat:=by
 unfold cutD;simp only [HT.sIx,List.drop_zero,Nat.sub_zero];rw [Jz (by omega)];by_cases z:k.toNat<=xs.length
 ·congr 1;omega
 ·rw [KL (by omega),KL (by omega)]
theorem mf (x:Str):x.cps.toList.length=x.length:=by simp [Str.length]
mutual
theorem eqv_refl:∀ d:PyData,noD d=true->PyData.eqv d d=true
 | .none,_=>by simp [PyData.eqv]
 | .bool b,_=>by simp [PyData.eqv]
 | .int i,_=>by simp [PyData.eqv]
 | .str x,_=>by simp [PyData.eqv]
 | .list xs,h=>by simpa [PyData.eqv] using eqvAll_refl xs (by simpa [noD] using h)
 | .tuple xs,h=>by simpa [PyData.eqv] using eqvAll_refl xs (by simpa [noD] using h)
 | .dict _,h=>by simp [noD] at h
theorem eqvAll_refl:∀ ds:List PyData,dq ds=true->PyData.eqvAll ds ds=true
 | [],_=>by simp [PyData.eqvAll]
 | d :: ds,h=>by
  have h':noD d=true/\dq ds=true:=by simpa [dq] using h
  simp [PyData.eqvAll,eqv_refl d h'.1,eqvAll_refl ds h'.2]
end
theorem jq:∀ {ds:List PyData},dq ds=true↔∀ d∈ds,noD d=true
 | []=>by simp [dq]
 | d :: ds=>by simp [dq,jq (ds:=ds)]
theorem dN {k:Nat}:∀ {ds:List PyData},(∀ d∈ds,d.depth<=k)->PyData.depthAll ds<=k
 | [],_=>by simp [PyData.depthAll]
 | d :: ds,h=>by
  have h1:=h d Jy;have h2:=dN fun x hx=>h x (JJ _ hx);simp only [PyData.depthAll];omega
theorem i9 {k:Nat} {ds:List PyData} (h:∀ d∈ds,d.depth<=k):(PyData.list ds).depth<=k+1:=by
 simp only [PyData.depth];have:=dN h;omega
theorem iL {k:Nat} {ds:List PyData} (h:∀ d∈ds,d.depth<=k):(PyData.tuple ds).depth<=k+1:=by
 simp only [PyData.depth];have:=dN h;omega
theorem lZ {d:PyData} (h1:noD d=true) (h2:d.depth<=64):fP d=true:=by simp [fP,h1,h2]
open PySem PySem.Spec PyProof.Rows
theorem jn:∀ bs:List Bool,gC (bs.map .bool)=some bs
 | []=>rfl
 | b :: bs=>by
  rw [List.map_cons];unfold gC;rw [jn bs]
open PySem PySem.Spec PyProof.Rows
def qe:List (Option Sl)->En->Prop
 | [],e=>e=[]
 | some s :: r,e=>∃ e',qe r e'/\e=s :: e'
 | none :: r,e=>∃ x e',soft x/\qe r e'/\e=x :: e'
def vb:List (Option Sl)->(En->Prop)->Prop
 | [],P=>P []
 | some s :: ts,P=>vb ts fun e=>P (s :: e)
 | none :: ts,P=>∀ s,soft s->vb ts fun e=>P (s :: e)
theorem qe.out:∀ {ts:List (Option Sl)} {e:En} {P:En->Prop},qe ts e->vb ts P->P e
 | [],_,_,h,q=>by cases (show _=_ from h);exact q
 | some s :: ts,e,P,h,q=>by obtain ⟨r,hr,rfl⟩:=h;exact hr.out (P:=fun e=>P (s :: e)) q
 | none :: ts,e,P,h,q=>by obtain ⟨s,r,hs,hr,rfl⟩:=h;exact hr.out (P:=fun e=>P (s :: e)) (q s hs)
section
variable {gd:List PyData} {e e':En} {E:Kn} {Q:RV->En->Prop} {QA:List AV->En->Prop} {QT:Bool->En->Prop} {QI:List PyData->Option Nat->En->Prop} {N:En->Prop} {i:Nat} {r:RV}
theorem Bz (h:e=e') (q:Bd i r e' N):Bd i r e N:=h▸q
theorem zC (h:e=e') (q:tK i r e' N):tK i r e N:=h▸q
theorem CD {is:List Nat} (h:e=e') (q:DZ is r e' N):DZ is r e N:=h▸q
theorem IP {as:XA} (h:e=e') (q:WA gd as e' QA):WA gd as e QA:=h▸q
theorem IY {a:XE} (h:e=e') (q:WE gd a e' Q):WE gd a e Q:=h▸q
theorem IF {s:XS} (h:e=e') (q:WS gd s e' E):WS gd s e E:=h▸q
theorem Jm {t:XT} (h:e=e') (q:WT gd t e' QT):WT gd t e QT:=h▸q
theorem Jj {t:XI} (h:e=e') (q:WI gd t e' QI):WI gd t e QI:=h▸q
theorem Gw {p:Prm} {avs:List AV} (h:e=e') (q:WPr p avs e' Q):WPr p avs e Q:=h▸q
theorem xT {f:Fn} {avs:List AV} (h:e=e') (q:oU f avs e' Q):oU f avs e Q:=h▸q
theorem F8 {mk:List PyData->RV} {avs:List AV} (h:e=e') (q:WTp mk avs e' Q):WTp mk avs e Q:=h▸q
theorem GO {m:Mtr} {avs:List AV} (h:e=e') (q:WMr m i avs e' Q):WMr m i avs e Q:=h▸q
theorem Ew {m:Mtd} {avs:List AV} (h:e=e') (q:DX m r avs e' Q):DX m r avs e Q:=h▸q
theorem Df {m:Mtd} {as:XA} (h:e=e') (q:D1 gd m as r e' Q):D1 gd m as r e Q:=h▸q
theorem Dy {ms:List PM} {QF:PR->List PyData->Prop} (h:e=e') (q:ze ms QF r e'):ze ms QF r e:=h▸q
theorem yn {ms:List PM} {QF:PR->List PyData->Prop} (h:e=e') (q:mO ms QF e'):mO ms QF e:=h▸q
theorem A9 (h:e=e') (q:BD r e' QI):BD r e QI:=h▸q
theorem CC {m:vT} {a:XE} (h:e=e') (q:DO gd m i a r e' N):DO gd m i a r e N:=h▸q
theorem DB {m:vT} {v:PyData} (h:e=e') (q:BA m i v r e' N):BA m i v r e N:=h▸q
end
theorem isEq {b:Bool} {avs:List AV} {e:En} {Q:RV->En->Prop} (h:WPr (DQ b) avs e Q):WPr (DQ b) avs e Q:=h
theorem pA {env e2:En} {i:Nat} {is:List Nat} {d:PyData} {ds:List PyData} (h:free env i=true) (q:eK (env.set i (.dat d)) is ds=some e2):eK env (i :: is) (d :: ds)=some e2:=by
 simp only [eK];rw [JB h];exact q
theorem sf {x y:Str}:PyData.eqv (.str x) (.str y)=decide (x=y):=by
 simp only [PyData.eqv];rfl
theorem tX {e:En} {x y:AV} {d:PyData} {Q:RV->En->Prop} (h1:aE e [x,y]=some [d,d]) (h2:fP d=true) (q:Q (.dat (.bool false)) e):WPr neP [x,y] e Q :=
 GN h1 h2 h2 (by rw [eqv_refl d (by have:=h2;simp only [fP,Kl] at this;exact this.1)];exact q)
theorem zO {e:En} {x y:AV} {z:PyData} {ds:List PyData} {b:Bool} {Q:RV->En->Prop} (h1:aE e [x,y]=some [z,.tuple ds]) (h2:o3 z=true) (h3:dq ds=true) (h4:tG ds z=b) (q:Q (.dat (.bool b)) e):WPr inP [x,y] e Q:=by
 refine ⟨_,.dat (.bool b),h1,?_,q⟩;subst h4;cases z with
 | dict kvs=>simp [o3,noD] at h2
 | _=>(show (if o3 _=true/\dq ds=true then some (PR.dat (.bool (ngB false (tG ds _)))) else none)=_);rw [JB ⟨h2,h3⟩];rfl
def HB (p:Prm) (r r2:RV) (k:PyData->Bool->Prop):Prop:=∃ x y b,r.av=.dat x/\r2.av=.dat y/\p.f [x,y]=some (.dat (.bool b))/\k y b
def HK (p:Prm) (y:PyData) (r:RV) (e:En) (Q:RV->En->Prop):Prop:=∃ z pr,r.av=.dat z/\p.f [y,z]=some pr/\Q pr.rv e
theorem CZ {gd:List PyData} {env:En} {p p':Prm} {a b c:XE} {Q:RV->En->Prop} (h:WE gd a env fun r e=>WE gd b e fun r2 e2=>HB p r r2 fun y k=>if k=true then WE gd c e2 fun r3 e3=>HK p' y r3 e3 Q else Q (.dat (.bool false)) e2):WE gd (.chn p p' a b c) env Q:=by
 refine Eo ?_;obtain ⟨r,e,h1,r2,e2,h2,x,y,k,h3,h4,h5,h6⟩:=h;exact ⟨r,e,h1,r2,e2,h2,x,y,k,h3,h4,h5,h6⟩
theorem w_all {e:En} {x:AV} {bs:List Bool} {Q:RV->En->Prop} (h1:aE e [x]=some [.list (bs.map .bool)]) (q:Q (.dat (.bool (bs.all id))) e):WPr DK [x] e Q:=by
 refine ⟨_,.dat (.bool (bs.all id)),h1,?_,q⟩;show (gC (bs.map .bool)).map _=_;rw [jn];rfl
theorem take_snoc {α:Type} {xs:List α} {i:Nat} {x:α} (h:xs[i]?=some x):xs.take i++[x]=xs.take (i+1):=by
 rw [List.take_add_one,h];rfl
theorem jS {α:Type} {P:α->Prop} {xs:List α} {y:α} (h:∀ x∈xs,P x) (hy:P y):∀ x∈xs++[y],P x:=fun x hm=>by
 rcases Kb.mp hm with hm | hm
 ·exact h x hm
 ·rw [JD.mp hm];exact hy
open PySem PySem.Spec PyProof.Rows
section
variable {gd:List PyData} {a:XE} {env:En} {QI:List PyData->Option Nat->En->Prop}
def II (r:RV) (e:En) (QI:List PyData->Option Nat->En->Prop):Prop:=(∃ kvs,r.av=.dat (.dict kvs)/\QI (kvs.map (·.1)) none e)\/∃ i kvs,r.av=.bor i/\cont e i=some (.dict kvs)/\QI (kvs.map (·.1)) (some i) e
theorem Io (h:WE gd a env fun r e=>II r e QI):WI gd (.dct a) env QI:=by
 obtain ⟨r,e',h1,⟨kvs,h2,h3⟩ | ⟨i,kvs,h2,h4,h3⟩⟩:=h
 ·exact ⟨_,_,_,by simp only [dI,h1,h2],h3⟩
 ·exact ⟨_,_,_,by simp only [dI,h1,h2,h4],h3⟩
end
theorem nc {i:Nat} {v k:PyData} {rk:RV} {e2:En} {N:En->Prop} {kvs:List (PyData×PyData)} (h1:rk.view e2=some k) (h2:aC e2 i=some (.dict kvs)) (h3:hk6 k=true) (h4:kvs.length < sizeLine) (q:N (fH e2 i (.dict (putD kvs k v)))):BA kU i v rk e2 N :=
 ⟨_,_,_,h1,h2,by show (if hk6 k=true/\kvs.length < sizeLine then some (PyData.dict (putD kvs k v)) else none)=_;rw [JB ⟨h3,h4⟩],q⟩
open PySem PySem.Spec PyProof.Rows PySem.W
structure Ord (lt:Nat->Nat->Bool) (n:Nat):Prop where
 irr:∀ i,lt i i=false
 tr:∀ i j k,lt i j=true->lt j k=true->lt i k=true
 tot:∀ i j,i < n->j < n->i≠j->lt i j=false->lt j i=true
noncomputable def at_ (p:Array Nat) (i:Nat):Nat:=p.getD i 0
def Up (lt:Nat->Nat->Bool) (p:Array Nat) (m:Nat):Prop:=∀ i,i+1 < m->lt (at_ p i) (at_ p (i+1))=true
section
variable {lt:Nat->Nat->Bool} {n:Nat} {p:Array Nat}
def Pm (n:Nat) (p:Array Nat):Prop:=p.Perm (List.range n).toArray
theorem Pm.size (h:Pm n p):p.size=n:=by
 have:=Array.Perm.size_eq h;simpa using this
theorem Up.all (O:Ord lt n) {m:Nat} (h:Up lt p m) {i j:Nat} (hij:i < j) (hj:j < m):lt (at_ p i) (at_ p j)=true:=by
 induction j with
 | zero=>omega
 | succ j ih =>
  by_cases e:i=j
  ·subst e;exact h i hj
  ·exact O.tr _ _ _ (ih (by omega) (by omega)) (h j hj)
end
open PySem PySem.Spec PyProof.Rows PySem.W
section
variable {P:Program} {w:World} {A:Around} {E:Value->Shared->Prop} {s:Shared} {d:Addr} {es:Array DictEntry} {ep:Nat}
def OkD (d:Addr) (es:Array DictEntry) (ep:Nat) (h:Heap):Prop:=∃ od,h.get? d=some od/\od.ExactDict/\od.data=.dict es ep
def GV (es:Array DictEntry) (i:Nat) (v:Value):Prop:=∃ e,es[i]?=some e/\v=e.key
theorem Ao (hh:A.handled=none) (I:Addr) (hne:d≠I):Walks P w A I [I,d] [I] es.size (GV es) (fun i h=>h.IsKeyIter I d i es.size ep/\OkD d es ep h) where
 sub:=fun b hb=>by simp at hb;simp [hb]
 frame:=fun _ _ _ st hk=>⟨st.1.at fun o e=>hk I (by simp) o e,let ⟨od,g,r⟩:=st.2;⟨od,hk d (by simp) _ g,r⟩⟩
 item:=fun i s Q E hi st hQ=>by
  obtain ⟨it,od,g1,g2,g3⟩:=st;refine CI it g1 g3 (Kw hi) fun h' it' sb=>?_;exact hQ _ h' s.toks ⟨_,Kw hi,rfl⟩ ⟨it',od,(sb.2 d hne).trans g1,g2,g3⟩ fun b o hb e=>(sb.2 b (fun z=>hb (by simp [z]))).trans e
 done:=fun s Q E st hQ=>by
  obtain ⟨it,od,g1,g2,g3⟩:=st;exact Fx hh it g1 g3 (JH _) fun h' eb=>hQ h' s.toks fun b o hb e=>eb b o (fun z=>hb (by simp [z])) e
 self:=fun _ _ _ _ st hQ=>wpAny_pyIter_keyiter st.1 hQ
theorem Iu (lo:(d==sysModules)=false):KdlSrc P w "dict" d d es.size (GV es) (OkD d es ep) where
 type:=fun _ ⟨od,g1,g2,_⟩=>⟨od,g1,g2.1⟩
 there:=fun _ ⟨od,g1,_⟩=>⟨JX g1,JX g1⟩
 keep:=fun _ _ ⟨od,g1,r⟩ hk=>⟨od,hk d (.inl rfl) _ g1,r⟩
 notList:=by decide
 notTuple:=by decide
 hint:=fun _ _ _ _ ⟨od,g1,g2,_⟩ hq=>kdl_hint_dict ⟨od,g1,g2.1⟩ hq
 iter:=fun _ s hh ⟨od,g1,g2,g3⟩=>⟨_,_,(fun _ _ hq=>Ak lo g1 g2 g3 hq),Ao hh _ (Kk (JX g1)),⟨⟨_,Kc _ rfl,rfl,rfl⟩,od,JN _ g1,g2,g3⟩⟩
theorem EF {R:Result->Shared->Prop} (hh:A.handled=none) (lo:(d==sysModules)=false) (ok:OkD d es ep s.heap) (hz:es.size<=sizeLine) {S:Addr} (ne:S≠d) (gS:s.heap.get? S=some { cls:=.type "list", data:=.seq #[] })
  (h:∀ h' tk acc' c',(∀ b o,b≠S->s.heap.get? b=some o->h'.get? b=some o)->h'.get? S=some { cls:=.type "list", dict:=none,data:=.seq acc' c',slots:=#[] }->ItemsOf (GV es) acc' es.size->R (.ok (.ret (.ref S))) { s with heap:=h',toks:=tk }) :
  codeAny (model P w) A (.builtin "list.__iadd__" ⟨[.ref S,.ref d],[]⟩) R s:=by
 refine codeAny_builtin F.entry_list_iadd ?_;rw [Around.under_plainId F.plain_list_iadd _];show wpAny _ A.in1 (Builtin.List.listExtendWith (.ref S) (.ref d) (.ref S)) _ _ _;exact kdl_extend (Iu lo) hh ok S ne ne (.ref S) 0 gS h hz
theorem FY {Q:List Value->Shared->Prop} (hh:A.handled=none) (lo:(d==sysModules)=false) (ok:OkD d es ep s.heap) (hz:es.size<=sizeLine)
  (h:∀ vs h' tk,vs=(es.toList.map (·.key))->s.heap.objs.size < h'.objs.size->(∀ b o,s.heap.get? b=some o->h'.get? b=some o)->Q vs { s with heap:=h',toks:=tk }) :
  wpAny (model P w) A (collect (.ref d)) Q E s:=by
 obtain ⟨od,ho,g2,g3⟩:=id ok;unfold collect;refine Jp (wpAny_runValue (codeAny_builtin F.entry_proto_collect ?_));rw [Around.under_plainId F.plain_proto_collect _];show wpAny _ A.in1 (newList []>>=fun l=>again (.builtin "list.__iadd__" ⟨[l,.ref d],[]⟩)) _ _ s;refine Jp (KU ?_);have hlt:d < s.heap.objs.size:=JX ho;have ne:s.heap.objs.size≠d:=Nat.ne_of_gt hlt;have g1:OkD d es ep (s.heap.push { cls:=.type "list", data:=.seq ([]:List Value).toArray }):=⟨od,JN _ ho,g2,g3⟩;have gS:(s.heap.push { cls:=.type "list", data:=.seq ([]:List Value).toArray }).get? s.heap.objs.size=some { cls:=.type "list", data:=.seq ([]:List Value).toArray }:=Kc _ rfl;refine Jw ⟨plainId_quiet F.plain_list_iadd _,EF (s:={ s with heap:=s.heap.push { cls:=.type "list", data:=.seq ([]:List Value).toArray } }) hh lo g1 hz ne gS fun h' tk acc' c' hk hS' hacc=>?_⟩;show wpAny _ A (load s.heap.objs.size>>=_) _ _ _;refine Jp (wpAny_load hS' ?_);refine Jw ?_;show Q acc'.toList _;refine h _ h' tk ?_ (JX hS') fun b o e=>hk b o (Kk (JX e)) (JN _ e);apply List.ext_getElem?;intro j;rw [Array.getElem?_toList,JU,Array.getElem?_toList];rcases Nat.lt_or_ge j es.size with z | z
 ·have zj:j < acc'.size:=by rw [hacc.1];exact z
  obtain ⟨e,h1,h2⟩:=hacc.2 j _ (Kw zj);rw [Kw zj,h1,h2];rfl
 ·rw [Array.getElem?_eq_none (by rw [hacc.1];exact z),Array.getElem?_eq_none z];rfl
end
open PySem PySem.Spec PyProof.Rows PySem.W
noncomputable def dO:Bool->Keyed->Array Keyed->Nat->Nat->Nat->StateT SortSt Sem (Option Nat):=sortPriv% PySem.Builtin.gallop
noncomputable def byd (left:Bool) (key:Keyed) (arr:Array Keyed) (base i:Nat):StateT SortSt Sem (Option Bool) :=
 elem' arr (base+i)>>=fun x=>if left=true then lt' x key else lt' key x>>=fun r=>pure (r.map fun b=>!b)
noncomputable def hfB (left:Bool) (key:Keyed) (arr:Array Keyed) (base:Nat) (c:Option (Option Nat)×Nat×Nat):StateT SortSt Sem (ForInStep (Option (Option Nat)×Nat×Nat)) :=
 if c.2.1>=c.2.2 then pure (.done (none,c.2.1,c.2.2)) else
  byd left key arr base (c.2.1+(c.2.2 - c.2.1) / 2)>>=fun r=>match r with
   | some b=>if b=true then pure (.yield (none,c.2.1+(c.2.2 - c.2.1) / 2+1,c.2.2)) else pure (.yield (none,c.2.1,c.2.1+(c.2.2 - c.2.1) / 2))
   | _=>pure (.done (some none,c.2.1,c.2.2))
theorem bindC {α β:Type} {m m':StateT SortSt Sem α} {f f':α->StateT SortSt Sem β} (h:m=m') (k:∀ a,f a=f' a):(m>>=f)=(m'>>=f'):=by
 subst h;exact Lp k
section
variable {M:Model} {A:Around} {E:Value->Shared->Prop} {s:Shared}
theorem wz {α:Type} {m m':StateT SortSt Sem α} {Q:α->SortSt->Prop} {st:SortSt} (e:m=m') (h:wpS M A E s m' Q st):wpS M A E s m Q st:=e▸h
theorem wH {left:Bool} {key:Keyed} {arr:Array Keyed} {base n lo hi:Nat} {P:Nat->Bool} {st:SortSt} {Q:Option Nat->SortSt->Prop}
  (hb:∀ i (C:Option Bool->SortSt->Prop),i < n->C (some (P i)) st->wpS M A E s (byd left key arr base i) C st) (hm:∀ i j,i<=j->j < n->P j=true->P i=true)
  (h0:hi<=n) (hl:lo<=hi) (h1:∀ i,i < lo->P i=true) (h2:∀ i,hi<=i->i < n->P i=false)
  (h:∀ k,k<=n->(∀ i,i < k->P i=true)->(∀ i,k<=i->i < n->P i=false)->Q (some k) st) :
  wpS M A E s (forIn [0:n] ((none,lo,hi):Option (Option Nat)×Nat×Nat) (fun _ c=>hfB left key arr base c)>>=fun c=>match c.1 with
   | some r=>pure r
   | none=>pure (some c.2.2)) Q st:=by
 refine J1 (KD (I:=fun i c st'=>st'=st/\c.1=none/\c.2.1<=c.2.2/\c.2.2<=n/\c.2.2 - c.2.1<=n - i/\(∀ i,i < c.2.1->P i=true)/\(∀ i,c.2.2<=i->i < n->P i=false)) ?_ ?_ ⟨rfl,rfl,hl,h0,by dsimp only;omega,h1,h2⟩)
 ·rintro i ⟨r,lo,hi⟩ _ _ hi' ⟨rfl,e,a1,a2,a3,a4,a5⟩;dsimp only at e a1 a2 a3 a4 a5 ⊢;subst e;unfold hfB;dsimp only;by_cases c:lo>=hi
  ·rw [JB c];exact JY (JY (h hi a2 (fun i z=>a4 i (by omega)) a5))
  ·rw [Jz c];refine J1 (hb _ _ (by omega) ?_);dsimp only;cases e:P (lo+(hi - lo) / 2) with
   | true =>
    rw [JB rfl];exact JY ⟨rfl,rfl,by dsimp only;omega,a2,by dsimp only;omega,fun i z=>hm _ _ (by dsimp only at z;omega) (by omega) e,a5⟩
   | false =>
    rw [Jz JL];refine JY ⟨rfl,rfl,by dsimp only;omega,by dsimp only;omega,by dsimp only;omega,a4,fun i z y=>?_⟩;cases e':P i with
    | false=>rfl
    | true=>rw [hm _ _ z y e'] at e;exact absurd e (by decide)
 ·rintro ⟨r,lo,hi⟩ _ ⟨rfl,e,a1,a2,a3,a4,a5⟩;dsimp only at e a1 a2 a3 a4 a5 ⊢;subst e;exact JY (h hi a2 (fun i z=>a4 i (by omega)) a5)
theorem vH {left:Bool} {key:Keyed} {arr:Array Keyed} {base n hint:Nat} {P:Nat->Bool} {st:SortSt} {Q:Option Nat->SortSt->Prop}
  (hb:∀ i (C:Option Bool->SortSt->Prop),i < n->C (some (P i)) st->wpS M A E s (byd left key arr base i) C st) (hm:∀ i j,i<=j->j < n->P j=true->P i=true)
  (hn:hint < n)
  (h:∀ k,k<=n->(∀ i,i < k->P i=true)->(∀ i,k<=i->i < n->P i=false)->Q (some k) st) :
  wpS M A E s (dO left key arr base n hint) Q st:=by
 have hmf:∀ i j,i<=j->j < n->P i=false->P j=false:=fun i j hij hj e=>by
  cases e':P j with
  | false=>rfl
  | true=>rw [hm _ _ hij hj e'] at e;exact absurd e (by decide)
 unfold dO;refine J1 (hb _ _ hn ?_);dsimp only;cases e:P hint with
 | true =>
  rw [JB rfl];refine J1 (KZ (KD (I:=fun i (c:Option (Option Nat)×Nat×Nat) st'=>st'=st/\c.1=none/\c.2.1 < c.2.2/\i+1<=c.2.2/\hint+c.2.1 < n/\P (hint+c.2.1)=true) (Q:=fun (c:Option (Option Nat)×Nat×Nat) st'=>st'=st/\c.1=none/\c.2.1 < c.2.2/\hint+c.2.1 < n/\P (hint+c.2.1)=true/\∀ i,hint+min c.2.2 (n - hint)<=i->i < n->P i=false) ?_ ?_ ⟨rfl,rfl,Lr _,JH _,hn,e⟩) ?_)
  ·rintro i ⟨r,lo,hi⟩ _ _ hi' ⟨rfl,e,a1,a2,a3,a4⟩;dsimp only at e a1 a2 a3 a4 ⊢;subst e;by_cases c:hi>=n - hint
   ·rw [JB c];exact JY ⟨rfl,rfl,a1,a3,a4,fun i z y=>by dsimp only at z;omega⟩
   ·rw [Jz c];refine J1 (hb _ _ (by omega) ?_);dsimp only;cases e:P (hint+hi) with
    | true =>
     rw [Jz (by decide)];exact JY ⟨rfl,rfl,by dsimp only;omega,by dsimp only;omega,by dsimp only;omega,e⟩
    | false =>
     rw [JB (by decide)];exact JY ⟨rfl,rfl,a1,a3,a4,fun i z y=>hmf _ _ (by dsimp only at z;omega) y e⟩
  ·rintro ⟨r,lo,hi⟩ _ ⟨rfl,e,a1,a2,a3,a4⟩;exact ⟨rfl,e,a1,a3,a4,fun i z y=>by dsimp only at z a2;omega⟩
  ·rintro ⟨r,lo,hi⟩ _ ⟨rfl,e,a1,a2,a3,a4⟩;dsimp only at e a1 a2 a3 a4 ⊢;subst e;refine wz ?_ (wH (lo:=hint+lo+1) (hi:=hint+min hi (n - hint)) hb hm (by omega) (by omega) (fun i z=>hm _ _ (by omega) a2 a3) a4 h);exact bindC (by congr 1) fun c=>by cases c.1 <;> rfl
 | false =>
  rw [Jz JL];refine J1 (KZ (KD (I:=fun i (c:Option (Option Nat)×Nat×Nat) st'=>st'=st/\c.1=none/\c.2.1 < c.2.2/\i+1<=c.2.2/\c.2.1<=hint/\P (hint - c.2.1)=false) (Q:=fun (c:Option (Option Nat)×Nat×Nat) st'=>st'=st/\c.1=none/\c.2.1 < c.2.2/\c.2.1<=hint/\P (hint - c.2.1)=false/\∀ i,i < hint+1 - min c.2.2 (hint+1)->P i=true) ?_ ?_ ⟨rfl,rfl,Lr _,JH _,KA _,e⟩) ?_)
  ·rintro i ⟨r,lo,hi⟩ _ _ hi' ⟨rfl,e,a1,a2,a3,a4⟩;dsimp only at e a1 a2 a3 a4 ⊢;subst e;by_cases c:hi>=hint+1
   ·rw [JB c];exact JY ⟨rfl,rfl,a1,a3,a4,fun i z=>by dsimp only at z;omega⟩
   ·rw [Jz c];refine J1 (hb _ _ (by omega) ?_);dsimp only;cases e:P (hint - hi) with
    | true =>
     rw [JB rfl];exact JY ⟨rfl,rfl,a1,a3,a4,fun i z=>hm _ _ (by dsimp only at z;omega) (by omega) e⟩
    | false =>
     rw [Jz JL];exact JY ⟨rfl,rfl,by dsimp only;omega,by dsimp only;omega,by dsimp only;omega,e⟩
  ·rintro ⟨r,lo,hi⟩ _ ⟨rfl,e,a1,a2,a3,a4⟩;exact ⟨rfl,e,a1,a3,a4,fun i z=>by dsimp only at z a2;omega⟩
  ·rintro ⟨r,lo,hi⟩ _ ⟨rfl,e,a1,a2,a3,a4⟩;dsimp only at e a1 a2 a3 a4 ⊢;subst e;refine wz ?_ (wH hb hm (by omega) (by omega) a4 (fun i z y=>hmf _ _ z y a3) h);exact bindC (by congr 1) fun c=>by cases c.1 <;> rfl
end
open PySem PySem.Spec PyProof.Rows PySem.W
noncomputable def arK (F:Nat->Keyed) (l:List Nat):Array Keyed:=(l.map F).toArray
section
variable {F:Nat->Keyed} {l m:List Nat}
theorem aN:(arK F l).size=l.length:=by simp [arK]
theorem cZ {x:Nat}:(arK F l).push (F x)=arK F (l++[x]):=by simp [arK]
theorem cF:arK F l++arK F m=arK F (l++m):=by simp [arK]
theorem r9:(arK F l).reverse=arK F l.reverse:=by simp [arK]
theorem pL {i j:Nat}:(arK F l).extract i j=arK F ((l.drop i).take (j - i)):=by simp [arK,List.extract_eq_drop_take,List.map_drop,List.map_take]
theorem oq {i:Nat}:(arK F l).extract i l.length=arK F (l.drop i):=by rw [pL,KL (by simp)]
theorem nI {j:Nat}:(arK F l).extract 0 j=arK F (l.take j):=by rw [pL,List.drop_zero,Nat.sub_zero]
theorem Dv {i x:Nat} (h:l[i]?=some x):(arK F l)[i]?=some (F x):=by simp [arK,h]
theorem bb {i x:Nat} (h:l[i]?=some x):l.drop i=x :: l.drop (i+1):=by
 obtain ⟨hi,e⟩:=Js.mp h;rw [KO hi,e]
end
structure Mg (lt:Nat->Nat->Bool) (tot o A B:List Nat):Prop where
 sa:(o++A).Pairwise fun x y=>lt x y=true
 sb:(o++B).Pairwise fun x y=>lt x y=true
 pm:(o++(A++B)).Perm tot
section
variable {lt:Nat->Nat->Bool} {tot o A B A1 A2 B1 B2:List Nat} {x y:Nat}
theorem Mg.symm (h:Mg lt tot o A B):Mg lt tot o B A:=⟨h.sb,h.sa,(Lm o List.perm_append_comm).trans h.pm⟩
theorem Mg.left (h:Mg lt tot o (A1++A2) B) (q:∀ x∈A1,∀ y∈B,lt x y=true):Mg lt tot (o++A1) A2 B:=by
 refine ⟨by rw [J0];exact h.sa,?_,by have:=h.pm;simp only [J0] at this ⊢;exact this⟩;have h1:=JZ.mp h.sa;have h2:=JZ.mp h.sb;have h3:=JZ.mp h1.2.1;rw [J0,JZ];refine ⟨h1.1,JZ.mpr ⟨h3.1,h2.2.1,q⟩,fun a ha b hb=>?_⟩;rcases Kb.mp hb with z | z
 ·exact h1.2.2 a ha b (J9 _ z)
 ·exact h2.2.2 a ha b z
theorem Mg.right (h:Mg lt tot o A (B1++B2)) (q:∀ x∈B1,∀ y∈A,lt x y=true):Mg lt tot (o++B1) A B2:=(h.symm.left q).symm
theorem Mg.len (h:Mg lt tot o A B):o.length+(A.length+B.length)=tot.length:=by simpa using h.pm.length_eq
theorem Mg.uY {N:Nat} (O:Ord lt N) (h:Mg lt tot o (x :: A) (y :: B)) (q:lt y x=true):∀ z∈[y],∀ w∈x :: A,lt z w=true:=by
 intro z hz w hw;rw [JD] at hz;subst hz;rcases JV.mp hw with rfl | hw
 ·exact q
 ·exact O.tr _ _ _ q ((KQ.mp (JZ.mp h.sa).2.1).1 _ hw)
theorem Mg.ne (h:Mg lt tot o A B) (nd:tot.Nodup) (hx:x∈A) (hy:y∈B):x≠y:=by
 have h1:=(Kf.mp (h.pm.nodup_iff.mpr nd)).2.1;exact (Kf.mp h1).2.2 x hx y hy
theorem Mg.inA (h:Mg lt tot o A B) (hx:x∈A):x∈tot:=h.pm.mem_iff.mp (Jx _ (J9 _ hx))
theorem Mg.inB (h:Mg lt tot o A B) (hx:x∈B):x∈tot:=h.symm.inA hx
theorem Mg.les {N:Nat} (O:Ord lt N) (nd:tot.Nodup) (bd:∀ x∈tot,x < N) (h:Mg lt tot o A B) (hx:x∈A) (hy:y∈B) (e:lt y x=false):lt x y=true :=
 O.tot y x (bd _ (h.inB hy)) (bd _ (h.inA hx)) (Ne.symm (h.ne nd hx hy)) e
theorem Mg.low {N:Nat} (O:Ord lt N) (h:Mg lt tot o A (y :: B)) (q:∀ x∈A1,lt x y=true):∀ x∈A1,∀ w∈y :: B,lt x w=true:=by
 intro x hx w hw;rcases JV.mp hw with rfl | hw
 ·exact q x hx
 ·exact O.tr _ _ _ (q x hx) ((KQ.mp (JZ.mp h.sb).2.1).1 _ hw)
end
section
variable {M:Model} {E:Value->Shared->Prop} {Ar:Around} {s:Shared} {F:Nat->Keyed} {lt:Nat->Nat->Bool} {N:Nat} {κ:SortKind}
theorem aI {α:Type} {l:List Nat} {i x:Nat} {st:SortSt} {f:Keyed->StateT SortSt Sem α} {Q:α->SortSt->Prop} (h:l[i]?=some x) (q:wpS M Ar E s (f (F x)) Q st):wpS M Ar E s (elem' (arK F l) i>>=f) Q st:=by
 rw [elem'_eq,Dv h];exact J1 (JY q)
def Cmp (M:Model) (Ar:Around) (E:Value->Shared->Prop) (s:Shared) (F:Nat->Keyed) (lt:Nat->Nat->Bool) (N:Nat) (κ:SortKind):Prop :=
 ∀ i j (C:Option Bool->SortSt->Prop) st,PyProof.Rows.kindOf st=κ->i < N->j < N->C (some (lt i j)) st->wpS M Ar E s (lt' (F i) (F j)) C st
theorem oo {P:Nat->Bool} {S:List Nat} {k:Nat} (hk:k<=S.length) (h1:∀ i,i < k->∀ x,S[i]?=some x->P x=true) (h2:∀ i,k<=i->i < S.length->∀ x,S[i]?=some x->P x=false) :
  ∃ S1 S2,S=S1++S2/\S1.length=k/\(∀ x∈S1,P x=true)/\∀ x∈S2,P x=false:=by
 refine ⟨S.take k,S.drop k,(List.take_append_drop k S).symm,by rw [Kp];omega,fun x hx=>?_,fun x hx=>?_⟩
 ·obtain ⟨i,hi,e⟩:=List.mem_iff_getElem.mp hx;rw [Kp] at hi;exact h1 i (by omega) x (by rw [List.getElem_take] at e;rw [Jq (by omega),e])
 ·obtain ⟨i,hi,e⟩:=List.mem_iff_getElem.mp hx;rw [K3] at hi;exact h2 (k+i) (by omega) (by omega) x (by rw [List.getElem_drop] at e;rw [Jq (by omega),e])
theorem oJ {left:Bool} {y base n hint:Nat} {l S:List Nat} {st:SortSt} {Q:Option Nat->SortSt->Prop} (O:Ord lt N) (hc:Cmp M Ar E s F lt N κ) (hk:PyProof.Rows.kindOf st=κ)
  (hS:(l.drop base).take n=S) (hl:S.length=n) (hp:S.Pairwise fun x y=>lt x y=true) (hb:∀ x∈S,x < N) (hy:y < N) (hn:hint < n)
  (h:∀ S1 S2,S=S1++S2->(∀ x∈S1,(if left then lt x y else !lt y x)=true)->(∀ x∈S2,(if left then lt x y else !lt y x)=false)->Q (some S1.length) st) :
  wpS M Ar E s (dO left (F y) (arK F l) base n hint) Q st:=by
 have hx:∀ i,i < n->∃ x,S[i]?=some x/\l[base+i]?=some x/\x < N:=fun i hi=>by
  refine ⟨S[i]'(by omega),Jq _,?_,hb _ (L6 _)⟩;have:((l.drop base).take n)[i]?=S[i]?:=by rw [hS]
  rw [List.getElem?_take_of_lt hi,List.getElem?_drop] at this;rw [this,Jq]
 refine vH (P:=fun i=>if left then lt (S.getD i 0) y else !lt y (S.getD i 0)) (fun i C hi hC=>?_) (fun i j hij hj e=>?_) hn fun k hk1 a1 a2=>?_
 ·obtain ⟨x,e1,e2,e3⟩:=hx i hi;unfold byd;refine aI e2 ?_;have eg:S.getD i 0=x:=by rw [Ki,e1];rfl
  rw [eg] at hC;cases left with
  | true =>
   rw [JB rfl] at hC ⊢;exact hc _ _ _ _ hk e3 hy hC
  | false =>
   rw [Jz JL] at hC ⊢;exact J1 (hc _ _ _ _ hk hy e3 (JY hC))
 ·rcases Nat.lt_or_eq_of_le hij with z | rfl
  ·obtain ⟨x,e1,e2,e3⟩:=hx i (by omega);obtain ⟨x',e1',e2',e3'⟩:=hx j hj;have eg:S.getD i 0=x:=by rw [Ki,e1];rfl
   have eg':S.getD j 0=x':=by rw [Ki,e1'];rfl
   have hlt:lt x x'=true:=by
    obtain ⟨u1,u2⟩:=Js.mp e1;obtain ⟨u3,u4⟩:=Js.mp e1';have:=Kv.mp hp i j u1 u3 z
    rwa [u2,u4] at this
   try dsimp only at e ⊢
   rw [eg'] at e;rw [eg];cases left with
   | true =>
    rw [JB rfl] at e ⊢;exact O.tr _ _ _ hlt e
   | false =>
    rw [Jz JL] at e ⊢;cases e2:lt y x with
    | false=>rfl
    | true=>rw [O.tr _ _ _ e2 hlt] at e;exact e
  ·exact e
 ·obtain ⟨S1,S2,rfl,e,b1,b2⟩:=oo (S:=S) (P:=fun x=>if left then lt x y else !lt y x) (k:=k) (by omega)
   (fun i hi x e=>by have:=a1 i hi;rwa [Ki,e] at this)
   (fun i hi hi' x e=>by have:=a2 i hi (by omega);rwa [Ki,e] at this)
  rw [<- e];exact h S1 S2 rfl b1 b2
end
open PySem PySem.Spec PyProof.Rows PySem.W
noncomputable def jX:Array Keyed->Array Keyed->StateT SortSt Sem (Array Keyed):=sortPriv% PySem.Builtin.mergeLo
noncomputable def t9:Nat->StateT SortSt Sem Unit:=sortPriv% PySem.Builtin.setMinGallop
theorem gc (g:Nat):t9 g=modify fun s=>SortSt.mk' (PyProof.Rows.kindOf s) (arrOf s) (pendingOf s) g (failedOf s):=rfl
abbrev CL:=Option (Array Keyed)×Array Keyed×Nat×Nat×Nat×Nat
abbrev CG:=Option (Array Keyed)×Array Keyed×Nat×Nat×Nat×Nat×Nat
abbrev fA (a b out:Array Keyed) (ia ib:Nat):=out++a.extract ia a.size++b.extract ib b.size
abbrev fL (a b out:Array Keyed) (ia ib:Nat):=out++b.extract ib b.size++a.extract ia a.size
noncomputable def lo1 (a b:Array Keyed) (mg:Nat) (c:CL):StateT SortSt Sem (ForInStep CL):=do
 let some bWins<-lt' (<- elem' b c.2.2.2.1) (<- elem' a c.2.2.1) | return .done (some (fA a b c.2.1 c.2.2.1 c.2.2.2.1),c.2)
 if bWins then
  let x<-elem' b c.2.2.2.1
  if c.2.2.2.1+1==b.size then return .done (some (fA a b (c.2.1.push x) c.2.2.1 (c.2.2.2.1+1)),c.2.1.push x,c.2.2.1,c.2.2.2.1+1,0,c.2.2.2.2.2+1)
  if c.2.2.2.2.2+1>=mg then return .done (none,c.2.1.push x,c.2.2.1,c.2.2.2.1+1,0,c.2.2.2.2.2+1)
  return .yield (none,c.2.1.push x,c.2.2.1,c.2.2.2.1+1,0,c.2.2.2.2.2+1)
 else
  let x<-elem' a c.2.2.1
  if c.2.2.1+1+1==a.size then return .done (some (fL a b (c.2.1.push x) (c.2.2.1+1) c.2.2.2.1),c.2.1.push x,c.2.2.1+1,c.2.2.2.1,c.2.2.2.2.1+1,0)
  if c.2.2.2.2.1+1>=mg then return .done (none,c.2.1.push x,c.2.2.1+1,c.2.2.2.1,c.2.2.2.2.1+1,0)
  return .yield (none,c.2.1.push x,c.2.2.1+1,c.2.2.2.1,c.2.2.2.2.1+1,0)
noncomputable def lo4 (a b out:Array Keyed) (ia ib mg k k1:Nat):StateT SortSt Sem (ForInStep CG):=do
 let x<-elem' a ia
 if ia+1+1==a.size then return .done (some (fL a b (out.push x) (ia+1) ib),out.push x,ia+1,ib,mg,k,k1)
 if k < 7&&k1 < 7 then return .done (none,out.push x,ia+1,ib,mg,k,k1)
 return .yield (none,out.push x,ia+1,ib,mg,k,k1)
noncomputable def lo3 (a b out:Array Keyed) (ia ib mg k bc:Nat):StateT SortSt Sem (ForInStep CG):=do
 let x<-elem' b ib
 if ib+1==b.size then return .done (some (fA a b (out.push x) ia (ib+1)),out.push x,ia,ib+1,mg,k,bc)
 let some k1<-dO true (<- elem' a ia) b (ib+1) (b.size - (ib+1)) 0 | return .done (some (fA a b (out.push x) ia (ib+1)),out.push x,ia,ib+1,mg,k,bc)
 if k1 > 0 then
  if ib+1+k1==b.size then return .done (some (fA a b (out.push x++b.extract (ib+1) (ib+1+k1)) ia (ib+1+k1)),out.push x++b.extract (ib+1) (ib+1+k1),ia,ib+1+k1,mg,k,k1)
  else lo4 a b (out.push x++b.extract (ib+1) (ib+1+k1)) ia (ib+1+k1) mg k k1
 else lo4 a b (out.push x) ia (ib+1) mg k k1
noncomputable def lo2 (a b out:Array Keyed) (ia ib mg ac bc:Nat):StateT SortSt Sem (ForInStep CG):=do
 t9 mg
 let some k<-dO false (<- elem' b ib) a ia (a.size - ia) 0 | return .done (some (fA a b out ia ib),out,ia,ib,mg,ac,bc)
 if k > 0 then
  if ia+k+1==a.size then return .done (some (fL a b (out++a.extract ia (ia+k)) (ia+k) ib),out++a.extract ia (ia+k),ia+k,ib,mg,k,bc)
  else
   if ia+k==a.size then return .done (some (fA a b (out++a.extract ia (ia+k)) (ia+k) ib),out++a.extract ia (ia+k),ia+k,ib,mg,k,bc)
   else lo3 a b (out++a.extract ia (ia+k)) (ia+k) ib mg k bc
 else lo3 a b out ia ib mg k bc
theorem lW (a b:Array Keyed):jX a b=(do
 rule "list.sort.merge-lo"
 let x<-elem' b 0
 if 1==b.size then return fA a b #[x] 0 1
 if 0+1==a.size then return fL a b #[x] 0 1
 let st<-get
 let r<-forIn [0:a.size+b.size] ((none,#[x],0,1,gallopOf st):Option (Array Keyed)×Array Keyed×Nat×Nat×Nat) fun _ c=>do
  let d<-forIn [0:a.size+b.size] ((none,c.2.1,c.2.2.1,c.2.2.2.1,0,0):CL) fun _ c'=>lo1 a b c.2.2.2.2 c'
  match d.1 with
  | some r=>pure (.done (some r,d.2.1,d.2.2.1,d.2.2.2.1,c.2.2.2.2))
  | none=>do
   rule "list.sort.gallop"
   let e<-forIn [0:a.size+b.size] ((none,d.2.1,d.2.2.1,d.2.2.2.1,c.2.2.2.2+1,d.2.2.2.2.1,d.2.2.2.2.2):CG) fun _ c' =>
    if c'.2.2.2.2.1 > 1 then lo2 a b c'.2.1 c'.2.2.1 c'.2.2.2.1 (c'.2.2.2.2.1 - 1) c'.2.2.2.2.2.1 c'.2.2.2.2.2.2
    else lo2 a b c'.2.1 c'.2.2.1 c'.2.2.2.1 c'.2.2.2.2.1 c'.2.2.2.2.2.1 c'.2.2.2.2.2.2
   match e.1 with
   | some r=>pure (.done (some r,e.2.1,e.2.2.1,e.2.2.2.1,e.2.2.2.2.1))
   | none=>do
    t9 (e.2.2.2.2.1+1)
    pure (.yield (none,e.2.1,e.2.2.1,e.2.2.2.1,e.2.2.2.2.1+1))
 match r.1 with
 | some r=>pure r
 | none=>unsupported "internal:list.sort.merge-bound"):=by
 unfold jX;refine bindC rfl fun _=>?_;dsimp only;refine Lp fun x=>?_;congr 1;congr 1;refine Lp fun st=>?_;have:∀ {α β:Type} {m m':StateT SortSt Sem α} {f f':α->StateT SortSt Sem β},m=m'->f=f'->(m>>=f)=(m'>>=f'):=by rintro _ _ _ _ _ _ rfl rfl;rfl
 refine this ?_ ?_
 ·congr 1;funext _ c;refine this ?_ ?_
  ·congr 1
  ·funext d;cases d.1 with
   | some=>rfl
   | none =>
    dsimp only;refine Lp fun _=>?_;refine this ?_ ?_
    ·congr 1
    ·funext d;cases d.1 <;> rfl
 ·funext r;cases r.1 <;> rfl
open PySem PySem.Spec PyProof.Rows PySem.W
section
variable {M:Model} {E:Value->Shared->Prop} {Ar:Around} {s:Shared} {F:Nat->Keyed} {lt:Nat->Nat->Bool} {N:Nat} {κ:SortKind} {X:Array Keyed} {pd:Array (Nat×Nat×Nat)} {la lb tot:List Nat}
def FI (F:Nat->Keyed) (lt:Nat->Nat->Bool) (κ:SortKind) (X:Array Keyed) (pd:Array (Nat×Nat×Nat)) (tot:List Nat) (r:Array Keyed) (st:SortSt):Prop:=∃ o g,r=arK F o/\st=SortSt.mk' κ X pd g none/\o.Pairwise (fun x y=>lt x y=true)/\o.Perm tot
def LI (F:Nat->Keyed) (lt:Nat->Nat->Bool) (κ:SortKind) (X:Array Keyed) (pd:Array (Nat×Nat×Nat)) (tot la lb:List Nat) (L:Nat) (out:Array Keyed) (ia ib:Nat) (st:SortSt):Prop :=
 ∃ o g,out=arK F o/\st=SortSt.mk' κ X pd g none/\L<=o.length/\Mg lt tot o (la.drop ia) (lb.drop ib)/\ia+1 < la.length/\ib < lb.length
def RD (F:Nat->Keyed) (lt:Nat->Nat->Bool) (κ:SortKind) (X:Array Keyed) (pd:Array (Nat×Nat×Nat)) (tot la lb:List Nat) (L:Nat) (c:Option (Array Keyed)) (out:Array Keyed) (ia ib:Nat) (st:SortSt):Prop :=
 (∃ r,c=some r/\FI F lt κ X pd tot r st)\/(c=none/\LI F lt κ X pd tot la lb L out ia ib st)
def RG (F:Nat->Keyed) (lt:Nat->Nat->Bool) (κ:SortKind) (X:Array Keyed) (pd:Array (Nat×Nat×Nat)) (tot la lb:List Nat) (L:Nat):ForInStep CG->SortSt->Prop
 | .done c,st=>RD F lt κ X pd tot la lb L c.1 c.2.1 c.2.2.1 c.2.2.2.1 st
 | .yield c,st=>c.1=none/\LI F lt κ X pd tot la lb L c.2.1 c.2.2.1 c.2.2.2.1 st
theorem BE {o:List Nat} {ia ib g:Nat} (h:Mg lt tot o (la.drop ia) (lb.drop ib)) (e:la.length<=ia\/lb.length<=ib):FI F lt κ X pd tot (fA (arK F la) (arK F lb) (arK F o) ia ib) (SortSt.mk' κ X pd g none):=by
 refine ⟨o++la.drop ia++lb.drop ib,g,by unfold fA;rw [aN,aN,oq,oq,cF,cF],rfl,?_,by rw [J0];exact h.pm⟩;rcases e with e | e
 ·rw [List.drop_eq_nil_of_le e,Kj];exact h.sb
 ·rw [List.drop_eq_nil_of_le e,Kj];exact h.sa
theorem DR {o:List Nat} {ia ib g z:Nat} (hz:la[la.length - 1]?=some z) (hz':∀ y∈lb,lt y z=true) (h:Mg lt tot o (la.drop ia) (lb.drop ib)) (e:ia+1=la.length):FI F lt κ X pd tot (fL (arK F la) (arK F lb) (arK F o) ia ib) (SortSt.mk' κ X pd g none):=by
 have ez:la.drop ia=[z]:=by rw [bb (x:=z) (by rw [<- hz];congr 1;omega),List.drop_eq_nil_of_le (by omega)]
 refine ⟨o++lb.drop ib++la.drop ia,g,by unfold fL;rw [aN,aN,oq,oq,cF,cF],rfl,?_,by rw [J0];exact h.symm.pm⟩;have h2:=h.symm;rw [<- Kj (lb.drop ib)] at h2;refine (h2.left fun y hy w hw=>?_).symm.sa;rw [ez,JD] at hw;subst hw;exact hz' y (List.mem_of_mem_drop hy)
theorem fX {l S1 S2:List Nat} {i:Nat} (h:l.drop i=S1++S2):l.drop (i+S1.length)=S2:=by rw [<- List.drop_drop,h,LV]
theorem nE {l S1 S2:List Nat} {i:Nat} (h:l.drop i=S1++S2):l.length - i=S1.length+S2.length:=by rw [<- K3,h,Jr]
theorem vQ {l S1 S2:List Nat} {i:Nat} (h:l.drop i=S1++S2):(arK F l).extract i (i+S1.length)=arK F S1:=by rw [pL,h,Le,List.take_left]
theorem wU {o:List Nat} {ia ib mg k k1 x g z L:Nat} (hz:la[la.length - 1]?=some z) (hz':∀ y∈lb,lt y z=true) (h:Mg lt tot o (la.drop ia) (lb.drop ib)) (ha:ia+1 < la.length) (hb:ib < lb.length) (hx:la[ia]?=some x) (q:∀ y∈lb.drop ib,lt x y=true) (hL:L<=o.length+1) :
  wpS M Ar E s (lo4 (arK F la) (arK F lb) (arK F o) ia ib mg k k1) (RG F lt κ X pd tot la lb L) (SortSt.mk' κ X pd g none):=by
 unfold lo4;refine aI hx ?_;rw [cZ,aN];have h':Mg lt tot (o++[x]) (la.drop (ia+1)) (lb.drop ib):=by
  rw [bb hx] at h;exact Mg.left (A1:=[x]) h fun w hw y hy=>by rw [JD] at hw;subst hw;exact q y hy
 have hL':L<=(o++[x]).length:=by rw [Jr];exact hL
 by_cases c:ia+1+1=la.length
 ·rw [JB (by rw [c];exact Ks _)];exact JY (.inl ⟨_,rfl,DR hz hz' h' c⟩)
 ·rw [Jz (by rw [Kg];exact c)];split
  ·exact JY (.inr ⟨rfl,_,_,rfl,rfl,hL',h',by dsimp only;omega,hb⟩)
  ·exact JY ⟨rfl,_,_,rfl,rfl,hL',h',by dsimp only;omega,hb⟩
variable (O:Ord lt N) (nd:tot.Nodup) (bd:∀ x∈tot,x < N) (hc:Cmp M Ar E s F lt N κ)
include O nd bd hc
theorem wW {o:List Nat} {ia ib mg k bc y g z L:Nat} (hz:la[la.length - 1]?=some z) (hz':∀ y∈lb,lt y z=true) (h:Mg lt tot o (la.drop ia) (lb.drop ib)) (ha:ia+1 < la.length) (hb:ib < lb.length) (hy:lb[ib]?=some y) (q:∀ x∈la.drop ia,lt y x=true) (hL:L<=o.length+1) :
  wpS M Ar E s (lo3 (arK F la) (arK F lb) (arK F o) ia ib mg k bc) (RG F lt κ X pd tot la lb L) (SortSt.mk' κ X pd g none):=by
 unfold lo3;refine aI hy ?_;rw [cZ,aN];have h':Mg lt tot (o++[y]) (la.drop ia) (lb.drop (ib+1)):=by
  rw [bb hy] at h;exact Mg.right (B1:=[y]) h fun w hw v hv=>by rw [JD] at hw;subst hw;exact q v hv
 have hL':L<=(o++[y]).length:=by rw [Jr];exact hL
 by_cases c:ib+1=lb.length
 ·rw [JB (by rw [c];exact Ks _)];exact JY (.inl ⟨_,rfl,BE h' (.inr (by omega))⟩)
 ·rw [Jz (by rw [Kg];exact c)];obtain ⟨x,hx⟩:∃ x,la[ia]?=some x:=⟨_,Jq (by omega)⟩;refine aI hx ?_;have hxm:x∈la.drop ia:=by rw [bb hx];exact Jy ..
  refine J1 (oJ (S:=lb.drop (ib+1)) O hc rfl (KL (by simp)) (by simp) (JZ.mp h'.sb).2.1 (fun w hw=>bd _ (h'.inB hw)) (bd _ (h'.inA hxm)) (by omega) fun S1 S2 eS q1 q2=>?_);dsimp only;have q2':∀ w∈S2,lt x w=true:=fun w hw=>by
   have:=q2 w hw;rw [JB rfl] at this;exact h'.les O nd bd hxm (by rw [eS];exact Jx _ hw) this
  have h2:Mg lt tot (o++[y]++S1) (la.drop ia) (lb.drop (ib+1+S1.length)):=by
   rw [fX eS];rw [eS] at h';refine h'.right ?_;rw [bb hx] at h' ⊢;exact h'.symm.low O fun w hw=>q1 w hw
  by_cases c2:S1.length > 0
  ·rw [JB c2,vQ eS,cF];by_cases c3:ib+1+S1.length=lb.length
   ·rw [JB (by rw [c3];exact Ks _)];exact JY (.inl ⟨_,rfl,BE h2 (.inr (by omega))⟩)
   ·rw [Jz (by rw [Kg];exact c3)];refine wU hz hz' h2 ha ?_ hx (by rw [fX eS];exact q2') (by rw [Jr];omega);have:=nE eS;omega
  ·rw [Jz c2];have e0:S1=[]:=Kd (by omega);subst e0;exact wU hz hz' h' ha (by omega) hx (by rw [eS];exact q2') (by omega)
theorem Cn {o:List Nat} {ia ib mg ac bc g z L:Nat} (hz:la[la.length - 1]?=some z) (hz':∀ y∈lb,lt y z=true) (h:Mg lt tot o (la.drop ia) (lb.drop ib)) (ha:ia+1 < la.length) (hb:ib < lb.length) (hL:L<=o.length+1) :
  wpS M Ar E s (lo2 (arK F la) (arK F lb) (arK F o) ia ib mg ac bc) (RG F lt κ X pd tot la lb L) (SortSt.mk' κ X pd g none):=by
 unfold lo2;rw [gc];refine J1 (LB ?_);obtain ⟨y,hy⟩:∃ y,lb[ib]?=some y:=⟨_,Jq hb⟩;refine aI hy ?_;have hym:y∈lb.drop ib:=by rw [bb hy];exact Jy ..
 rw [aN];refine J1 (oJ (S:=la.drop ia) O hc rfl (KL (by simp)) (by simp) (JZ.mp h.sa).2.1 (fun w hw=>bd _ (h.inA hw)) (bd _ (h.inB hym)) (by omega) fun S1 S2 eS q1 q2=>?_);dsimp only;have q1':∀ w∈S1,lt w y=true:=fun w hw=>by
  have:=q1 w hw;rw [Jz JL,Lo] at this;exact h.les O nd bd (by rw [eS];exact J9 _ hw) hym this
 have q2':∀ w∈S2,lt y w=true:=fun w hw=>by
  have:=q2 w hw
  rwa [Jz JL,Bool.not_eq_false'] at this
 have h2:Mg lt tot (o++S1) (la.drop (ia+S1.length)) (lb.drop ib):=by
  rw [fX eS];rw [eS] at h;refine h.left ?_;rw [bb hy] at h ⊢;exact h.low O q1'
 have hl:=nE eS;by_cases c2:S1.length > 0
 ·rw [JB c2,vQ eS,cF];by_cases c3:ia+S1.length+1=la.length
  ·rw [JB (by rw [c3];exact Ks _)];exact JY (.inl ⟨_,rfl,DR hz hz' h2 c3⟩)
  ·rw [Jz (by rw [Kg];exact c3)];by_cases c4:ia+S1.length=la.length
   ·rw [JB (by rw [c4];exact Ks _)];exact JY (.inl ⟨_,rfl,BE h2 (.inl (by omega))⟩)
   ·rw [Jz (by rw [Kg];exact c4)];exact wW O nd bd hc hz hz' h2 (by omega) hb hy (by rw [fX eS];exact q2') (by rw [Jr];omega)
 ·rw [Jz c2];have e0:S1=[]:=Kd (by omega);subst e0;exact wW O nd bd hc hz hz' h ha hb hy (by rw [eS];exact q2') hL
theorem CP {o:List Nat} {ia ib mg ac bc g z L:Nat} (hz:la[la.length - 1]?=some z) (hz':∀ y∈lb,lt y z=true) (h:Mg lt tot o (la.drop ia) (lb.drop ib)) (ha:ia+1 < la.length) (hb:ib < lb.length) (hL:L<=o.length+1) :
  wpS M Ar E s (lo1 (arK F la) (arK F lb) mg (none,arK F o,ia,ib,ac,bc)) (fun r st=>(∃ c,r=.done c/\RD F lt κ X pd tot la lb L c.1 c.2.1 c.2.2.1 c.2.2.2.1 st)\/∃ c,r=.yield c/\c.1=none/\LI F lt κ X pd tot la lb L c.2.1 c.2.2.1 c.2.2.2.1 st) (SortSt.mk' κ X pd g none):=by
 unfold lo1;obtain ⟨y,hy⟩:∃ y,lb[ib]?=some y:=⟨_,Jq hb⟩;obtain ⟨x,hx⟩:∃ x,la[ia]?=some x:=⟨_,Jq (by omega)⟩;have hxm:x∈la.drop ia:=by rw [bb hx];exact Jy ..
 have hym:y∈lb.drop ib:=by rw [bb hy];exact Jy ..
 dsimp only;refine aI hy (aI hx (J1 (hc _ _ _ _ rfl (bd _ (h.inB hym)) (bd _ (h.inA hxm)) ?_)));dsimp only;cases e:lt y x with
 | true =>
  rw [JB rfl];refine aI hy ?_;rw [cZ,aN];have h':Mg lt tot (o++[y]) (la.drop ia) (lb.drop (ib+1)):=by
   rw [bb hy] at h;refine Mg.right (B1:=[y]) h ?_;rw [bb hx] at h ⊢;exact h.uY O e
  have hL':L<=(o++[y]).length:=by rw [Jr];exact hL
  by_cases c:ib+1=lb.length
  ·rw [JB (by rw [c];exact Ks _)];exact JY (.inl ⟨_,rfl,.inl ⟨_,rfl,BE h' (.inr (by omega))⟩⟩)
  ·rw [Jz (by rw [Kg];exact c)];split
   ·exact JY (.inl ⟨_,rfl,.inr ⟨rfl,_,_,rfl,rfl,hL',h',ha,by dsimp only;omega⟩⟩)
   ·exact JY (.inr ⟨_,rfl,rfl,_,_,rfl,rfl,hL',h',ha,by dsimp only;omega⟩)
 | false =>
  rw [Jz JL];refine aI hx ?_;rw [cZ,aN];have e':=h.les O nd bd hxm hym e;have h':Mg lt tot (o++[x]) (la.drop (ia+1)) (lb.drop ib):=by
   rw [bb hx] at h;refine Mg.left (A1:=[x]) h ?_;rw [bb hy] at h ⊢;exact h.symm.uY O e'
  have hL':L<=(o++[x]).length:=by rw [Jr];exact hL
  by_cases c:ia+1+1=la.length
  ·rw [JB (by rw [c];exact Ks _)];exact JY (.inl ⟨_,rfl,.inl ⟨_,rfl,DR hz hz' h' c⟩⟩)
  ·rw [Jz (by rw [Kg];exact c)];split
   ·exact JY (.inl ⟨_,rfl,.inr ⟨rfl,_,_,rfl,rfl,hL',h',by dsimp only;omega,hb⟩⟩)
   ·exact JY (.inr ⟨_,rfl,rfl,_,_,rfl,rfl,hL',h',by dsimp only;omega,hb⟩)
theorem sR {g z y:Nat} {B:List Nat} {Q:Array Keyed->SortSt->Prop} (hz:la[la.length - 1]?=some z) (hz':∀ y∈lb,lt y z=true) (hy:lb=y :: B) (hy':∀ x∈la,lt y x=true) (sa:la.Pairwise fun x y=>lt x y=true) (sb:lb.Pairwise fun x y=>lt x y=true) (et:tot=la++lb)
  (h:∀ r st,FI F lt κ X pd tot r st->Q r st):wpS M Ar E s (jX (arK F la) (arK F lb)) Q (SortSt.mk' κ X pd g none):=by
 have hal:1<=la.length:=by
  rcases Nat.eq_zero_or_pos la.length with e | e
  ·rw [Kd e] at hz;cases hz
  ·exact e
 have hbl:lb.length=B.length+1:=by rw [hy];rfl
 have hl:tot.length=la.length+lb.length:=by rw [et,Jr]
 have h0:Mg lt tot [y] (la.drop 0) (lb.drop 1):=by
  have m0:Mg lt tot [] la (y :: B):=⟨sa,by rw [<- hy];exact sb,by rw [<- hy,<-et];exact Lg _⟩;rw [hy];exact Mg.right (B1:=[y]) m0 fun w hw x hx=>by rw [JD] at hw;subst hw;exact hy' x hx
 rw [lW];refine J1 (wpS_lift (KW ⟨rfl,?_⟩));refine aI (x:=y) (by rw [hy];rfl) ?_;rw [show (#[F y]:Array Keyed)=arK F [y] from rfl,aN,aN];by_cases c:1=lb.length
 ·rw [JB (by rw [<- c];rfl)];exact JY (h _ _ (BE h0 (.inr (by omega))))
 rw [Jz (by rw [Kg];exact c)];by_cases c:0+1=la.length
 ·rw [JB (by rw [<- c];rfl)];exact JY (h _ _ (DR hz hz' h0 c))
 rw [Jz (by rw [Kg];exact c)];refine J1 (L8 ?_);refine J1 (KZ (KD (I:=fun i (c:Option (Array Keyed)×Array Keyed×Nat×Nat×Nat) st=>c.1=none/\LI F lt κ X pd tot la lb (i+1) c.2.1 c.2.2.1 c.2.2.2.1 st) (Q:=fun (c:Option (Array Keyed)×Array Keyed×Nat×Nat×Nat) st=>∃ r,c.1=some r/\FI F lt κ X pd tot r st) ?_ ?_ ⟨rfl,[y],_,rfl,rfl,JH _,h0,by dsimp only;omega,by dsimp only;omega⟩) ?_)
 ·rintro i ⟨r,out,ia,ib,mg⟩ st _ hi ⟨e,o,g,e1,rfl,hL,hM,ha,hb⟩;dsimp only at e e1 hM ha hb ⊢;subst e e1;refine J1 (KZ (KD (I:=fun j (c:CL) st=>c.1=none/\LI F lt κ X pd tot la lb (i+1+min j 1) c.2.1 c.2.2.1 c.2.2.2.1 st) (Q:=fun (c:CL) st=>RD F lt κ X pd tot la lb (i+2) c.1 c.2.1 c.2.2.1 c.2.2.2.1 st) ?_ ?_ ⟨rfl,o,_,rfl,rfl,hL,hM,ha,hb⟩) ?_)
  ·rintro j ⟨r,out,ia,ib,ac,bc⟩ st _ hj ⟨e,o,g,e1,rfl,hL,hM,ha,hb⟩;dsimp only at e e1 hM ha hb hL ⊢;subst e e1;refine KZ (CP O nd bd hc (L:=i+2) hz hz' hM ha hb (by omega)) ?_;rintro r st (⟨c,rfl,q⟩ | ⟨c,rfl,e,o,g,q1,q2,q3,q4⟩)
   ·exact q
   ·exact ⟨e,o,g,q1,q2,by omega,q4⟩
  ·rintro ⟨r,out,ia,ib,ac,bc⟩ st ⟨e,o,g,q1,q2,q3,q4⟩;exact .inr ⟨e,o,g,q1,q2,by omega,q4⟩
  ·rintro ⟨r,out,ia,ib,ac,bc⟩ st (⟨r,e,q⟩ | ⟨e,o,g,e1,rfl,hL,hM,ha,hb⟩)
   ·dsimp only at e ⊢;subst e;exact JY ⟨r,rfl,q⟩
   dsimp only at e e1 hM ha hb hL ⊢;subst e e1;refine J1 (wpS_lift (KW ⟨rfl,?_⟩));refine J1 (KZ (KD (I:=fun j (c:CG) st=>c.1=none/\LI F lt κ X pd tot la lb (i+2) c.2.1 c.2.2.1 c.2.2.2.1 st) (Q:=fun (c:CG) st=>RD F lt κ X pd tot la lb (i+2) c.1 c.2.1 c.2.2.1 c.2.2.2.1 st) ?_ ?_ ⟨rfl,o,_,rfl,rfl,hL,hM,ha,hb⟩) ?_)
   ·rintro j ⟨r,out,ia,ib,mg,ac,bc⟩ st _ hj ⟨e,o,g,e1,rfl,hL,hM,ha,hb⟩;dsimp only at e e1 hM ha hb hL ⊢;subst e e1;split
    all_goals
     refine KZ (Cn O nd bd hc (L:=i+2) hz hz' hM ha hb (by omega)) ?_;rintro (c | c) st q
     ·exact q
     ·exact q
   ·rintro ⟨r,out,ia,ib,mg,ac,bc⟩ st ⟨e,q⟩;exact .inr ⟨e,q⟩
   ·rintro ⟨r,out,ia,ib,mg,ac,bc⟩ st (⟨r,e,q⟩ | ⟨e,o,g,e1,rfl,hL,hM,ha,hb⟩)
    ·dsimp only at e ⊢;subst e;exact JY ⟨r,rfl,q⟩
    dsimp only at e e1 hM ha hb hL ⊢;subst e e1;rw [gc];exact J1 (LB (JY ⟨rfl,o,_,rfl,rfl,hL,hM,ha,hb⟩))
 ·rintro ⟨r,out,ia,ib,mg⟩ st ⟨e,o,g,e1,rfl,hL,hM,ha,hb⟩;exfalso;have:=hM.len;rw [K3,K3] at this;dsimp only at this ha hb;omega
 ·rintro ⟨r,out,ia,ib,mg⟩ st ⟨r,e,q⟩;dsimp only at e ⊢;subst e;exact JY (h _ _ q)
end
open PySem PySem.Spec PyProof.Rows PySem.W
noncomputable def jL:Array Keyed->Array Keyed->StateT SortSt Sem (Array Keyed):=sortPriv% PySem.Builtin.mergeHi
abbrev DL:=Option (Array Keyed)×Nat×Nat×Array Keyed×Nat×Nat
abbrev DG:=Option (Array Keyed)×Nat×Nat×Array Keyed×Nat×Nat×Nat
abbrev gA (a b out:Array Keyed) (na nb:Nat):=a.extract 0 na++b.extract 0 nb++out.reverse
abbrev gB (a b out:Array Keyed) (na nb:Nat):=b.extract 0 nb++a.extract 0 na++out.reverse
noncomputable def hi1 (a b:Array Keyed) (mg:Nat) (c:DL):StateT SortSt Sem (ForInStep DL):=do
 let some aWins<-lt' (<- elem' b (c.2.2.1 - 1)) (<- elem' a (c.2.1 - 1)) | return .done (some (gA a b c.2.2.2.1 c.2.1 c.2.2.1),c.2)
 if aWins then
  let x<-elem' a (c.2.1 - 1)
  if c.2.1 - 1==0 then return .done (some (gA a b (c.2.2.2.1.push x) (c.2.1 - 1) c.2.2.1),c.2.1 - 1,c.2.2.1,c.2.2.2.1.push x,c.2.2.2.2.1+1,0)
  if c.2.2.2.2.1+1>=mg then return .done (none,c.2.1 - 1,c.2.2.1,c.2.2.2.1.push x,c.2.2.2.2.1+1,0)
  return .yield (none,c.2.1 - 1,c.2.2.1,c.2.2.2.1.push x,c.2.2.2.2.1+1,0)
 else
  let x<-elem' b (c.2.2.1 - 1)
  if c.2.2.1 - 1==1 then return .done (some (gB a b (c.2.2.2.1.push x) c.2.1 (c.2.2.1 - 1)),c.2.1,c.2.2.1 - 1,c.2.2.2.1.push x,0,c.2.2.2.2.2+1)
  if c.2.2.2.2.2+1>=mg then return .done (none,c.2.1,c.2.2.1 - 1,c.2.2.2.1.push x,0,c.2.2.2.2.2+1)
  return .yield (none,c.2.1,c.2.2.1 - 1,c.2.2.2.1.push x,0,c.2.2.2.2.2+1)
noncomputable def hi4 (a b out:Array Keyed) (na nb mg k k1:Nat):StateT SortSt Sem (ForInStep DG):=do
 let x<-elem' a (na - 1)
 if na - 1==0 then return .done (some (gA a b (out.push x) (na - 1) nb),na - 1,nb,out.push x,mg,k,k1)
 if k < 7&&k1 < 7 then return .done (none,na - 1,nb,out.push x,mg,k,k1)
 return .yield (none,na - 1,nb,out.push x,mg,k,k1)
noncomputable def hi3 (a b out:Array Keyed) (na nb mg k bc:Nat):StateT SortSt Sem (ForInStep DG):=do
 let x<-elem' b (nb - 1)
 if nb - 1==1 then return .done (some (gB a b (out.push x) na (nb - 1)),na,nb - 1,out.push x,mg,k,bc)
 let some k1<-dO true (<- elem' a (na - 1)) b 0 (nb - 1) (nb - 1 - 1) | return .done (some (gA a b (out.push x) na (nb - 1)),na,nb - 1,out.push x,mg,k,bc)
 if nb - 1 - k1 > 0 then
  if k1==1 then return .done (some (gB a b (out.push x++(b.extract k1 (nb - 1)).reverse) na k1),na,k1,out.push x++(b.extract k1 (nb - 1)).reverse,mg,k,nb - 1 - k1)
  else
   if k1==0 then return .done (some (gA a b (out.push x++(b.extract k1 (nb - 1)).reverse) na k1),na,k1,out.push x++(b.extract k1 (nb - 1)).reverse,mg,k,nb - 1 - k1)
   else hi4 a b (out.push x++(b.extract k1 (nb - 1)).reverse) na k1 mg k (nb - 1 - k1)
 else hi4 a b (out.push x) na (nb - 1) mg k (nb - 1 - k1)
noncomputable def hi2 (a b out:Array Keyed) (na nb mg ac bc:Nat):StateT SortSt Sem (ForInStep DG):=do
 t9 mg
 let some k<-dO false (<- elem' b (nb - 1)) a 0 na (na - 1) | return .done (some (gA a b out na nb),na,nb,out,mg,ac,bc)
 if na - k > 0 then
  if k==0 then return .done (some (gA a b (out++(a.extract k na).reverse) k nb),k,nb,out++(a.extract k na).reverse,mg,na - k,bc)
  else hi3 a b (out++(a.extract k na).reverse) k nb mg (na - k) bc
 else hi3 a b out na nb mg (na - k) bc
theorem lR (a b:Array Keyed):jL a b=(do
 rule "list.sort.merge-hi"
 let x<-elem' a (a.size - 1)
 if a.size - 1==0 then return gA a b #[x] (a.size - 1) b.size
 if b.size==1 then return gB a b #[x] (a.size - 1) b.size
 let st<-get
 let r<-forIn [0:a.size+b.size] ((none,a.size - 1,b.size,#[x],gallopOf st):Option (Array Keyed)×Nat×Nat×Array Keyed×Nat) fun _ c=>do
  let d<-forIn [0:a.size+b.size] ((none,c.2.1,c.2.2.1,c.2.2.2.1,0,0):DL) fun _ c'=>hi1 a b c.2.2.2.2 c'
  match d.1 with
  | some r=>pure (.done (some r,d.2.1,d.2.2.1,d.2.2.2.1,c.2.2.2.2))
  | none=>do
   rule "list.sort.gallop"
   let e<-forIn [0:a.size+b.size] ((none,d.2.1,d.2.2.1,d.2.2.2.1,c.2.2.2.2+1,d.2.2.2.2.1,d.2.2.2.2.2):DG) fun _ c' =>
    if c'.2.2.2.2.1 > 1 then hi2 a b c'.2.2.2.1 c'.2.1 c'.2.2.1 (c'.2.2.2.2.1 - 1) c'.2.2.2.2.2.1 c'.2.2.2.2.2.2
    else hi2 a b c'.2.2.2.1 c'.2.1 c'.2.2.1 c'.2.2.2.2.1 c'.2.2.2.2.2.1 c'.2.2.2.2.2.2
   match e.1 with
   | some r=>pure (.done (some r,e.2.1,e.2.2.1,e.2.2.2.1,e.2.2.2.2.1))
   | none=>do
    t9 (e.2.2.2.2.1+1)
    pure (.yield (none,e.2.1,e.2.2.1,e.2.2.2.1,e.2.2.2.2.1+1))
 match r.1 with
 | some r=>pure r
 | none=>unsupported "internal:list.sort.merge-bound"):=by
 unfold jL;refine bindC rfl fun _=>?_;dsimp only;refine Lp fun x=>?_;congr 1;congr 1;refine Lp fun st=>?_;have:∀ {α β:Type} {m m':StateT SortSt Sem α} {f f':α->StateT SortSt Sem β},m=m'->f=f'->(m>>=f)=(m'>>=f'):=by rintro _ _ _ _ _ _ rfl rfl;rfl
 refine this ?_ ?_
 ·congr 1;funext _ c;refine this ?_ ?_
  ·congr 1
  ·funext d;cases d.1 with
   | some=>rfl
   | none =>
    dsimp only;refine Lp fun _=>?_;refine this ?_ ?_
    ·congr 1
    ·funext d;cases d.1 <;> rfl
 ·funext r;cases r.1 <;> rfl
open PySem PySem.Spec PyProof.Rows PySem.W
section
variable {M:Model} {E:Value->Shared->Prop} {Ar:Around} {s:Shared} {F:Nat->Keyed} {lt:Nat->Nat->Bool} {N:Nat} {κ:SortKind} {X:Array Keyed} {pd:Array (Nat×Nat×Nat)} {la lb tot:List Nat}
theorem Ord.flip (O:Ord lt N):Ord (fun x y=>lt y x) N:=⟨O.irr,fun i j k a b=>O.tr _ _ _ b a,fun i j hi hj hn e=>O.tot j i hj hi (Ne.symm hn) e⟩
abbrev tkR (l:List Nat) (n:Nat):List Nat:=(l.take n).reverse
theorem fM {l:List Nat} {n x:Nat} (hn:0 < n) (h:l[n - 1]?=some x):tkR l n=x :: tkR l (n - 1):=by
 obtain ⟨m,rfl⟩:∃ m,n=m+1:=⟨n - 1,by omega⟩;rw [Nat.add_sub_cancel] at h ⊢;obtain ⟨hi,e⟩:=Js.mp h;unfold tkR;rw [List.take_add_one,h,List.reverse_append];rfl
theorem qC {l:List Nat} {n:Nat} (h:n<=l.length):(tkR l n).length=n:=by rw [LO,Kp];omega
theorem jH {l S1 S2:List Nat} {n:Nat} (h:l.take n=S1++S2):l.take S1.length=S1:=by
 have:(l.take n).take S1.length=S1:=by rw [h,List.take_left]
 rw [List.take_take] at this;have e:S1.length<=n:=by
  have h2:=congrArg List.length h;rw [Kp,Jr] at h2;omega
 rwa [Nat.min_eq_left e] at this
theorem mx {l S1 S2:List Nat} {n:Nat} (h:l.take n=S1++S2):tkR l n=S2.reverse++tkR l S1.length:=by
 unfold tkR;rw [jH h,h,List.reverse_append]
theorem wN {l S1 S2:List Nat} {n:Nat} (h:l.take n=S1++S2):((arK F l).extract S1.length n).reverse=arK F S2.reverse:=by
 rw [pL,<-List.drop_take,h,LV,r9]
def HI (F:Nat->Keyed) (lt:Nat->Nat->Bool) (κ:SortKind) (X:Array Keyed) (pd:Array (Nat×Nat×Nat)) (tot la lb:List Nat) (L:Nat) (out:Array Keyed) (na nb:Nat) (st:SortSt):Prop :=
 ∃ o g,out=arK F o/\st=SortSt.mk' κ X pd g none/\L<=o.length/\Mg (fun x y=>lt y x) tot o (tkR la na) (tkR lb nb)/\(0 < na/\na<=la.length)/\1 < nb/\nb<=lb.length
def HD (F:Nat->Keyed) (lt:Nat->Nat->Bool) (κ:SortKind) (X:Array Keyed) (pd:Array (Nat×Nat×Nat)) (tot la lb:List Nat) (L:Nat) (c:Option (Array Keyed)) (out:Array Keyed) (na nb:Nat) (st:SortSt):Prop :=
 (∃ r,c=some r/\FI F lt κ X pd tot r st)\/(c=none/\HI F lt κ X pd tot la lb L out na nb st)
def HG (F:Nat->Keyed) (lt:Nat->Nat->Bool) (κ:SortKind) (X:Array Keyed) (pd:Array (Nat×Nat×Nat)) (tot la lb:List Nat) (L:Nat):ForInStep DG->SortSt->Prop
 | .done c,st=>HD F lt κ X pd tot la lb L c.1 c.2.2.2.1 c.2.1 c.2.2.1 st
 | .yield c,st=>c.1=none/\HI F lt κ X pd tot la lb L c.2.2.2.1 c.2.1 c.2.2.1 st
theorem wb {o A B:List Nat}:(A++B++o.reverse).Perm (o++(A.reverse++B.reverse)) :=
 List.perm_append_comm.trans (List.Perm.append (LF _) (List.Perm.append (LF _).symm (LF _).symm))
theorem vS {o A:List Nat} (h:(o++A.reverse).Pairwise fun x y=>lt y x=true):(A++o.reverse).Pairwise fun x y=>lt x y=true:=by
 have:=K6.mpr h
 rwa [List.reverse_append,List.reverse_reverse] at this
theorem ql {o:List Nat} {na nb g:Nat} (h:Mg (fun x y=>lt y x) tot o (tkR la na) (tkR lb nb)) (e:na=0\/nb=0):FI F lt κ X pd tot (gA (arK F la) (arK F lb) (arK F o) na nb) (SortSt.mk' κ X pd g none):=by
 refine ⟨la.take na++lb.take nb++o.reverse,g,by unfold gA;rw [nI,nI,r9,cF,cF],rfl,?_,wb.trans h.pm⟩;rcases e with rfl | rfl
 ·rw [List.take_zero,List.nil_append];exact vS h.sb
 ·rw [List.take_zero,Kj];exact vS h.sa
theorem vj {o:List Nat} {na nb g y:Nat} (hy:lb[0]?=some y) (hy':∀ x∈la,lt y x=true) (h:Mg (fun x y=>lt y x) tot o (tkR la na) (tkR lb nb)) (e:nb=1):FI F lt κ X pd tot (gB (arK F la) (arK F lb) (arK F o) na nb) (SortSt.mk' κ X pd g none):=by
 subst e;have ey:tkR lb 1=[y]:=by rw [fM Nat.one_pos hy];unfold tkR;rfl
 refine ⟨lb.take 1++la.take na++o.reverse,g,by unfold gB;rw [nI,nI,r9,cF,cF],rfl,?_,wb.trans h.symm.pm⟩;rw [<- Kj (tkR la na)] at h
 have h2:=(h.left fun x hx w hw=>by
  rw [ey,JD] at hw;subst hw
  exact hy' x (List.mem_of_mem_take (K2.mp hx))).sb
 have:=K6.mpr h2;unfold tkR at this;simpa only [List.reverse_append,List.reverse_reverse,J0] using this
theorem xb {o:List Nat} {na nb mg k k1 x g L:Nat} (h:Mg (fun x y=>lt y x) tot o (tkR la na) (tkR lb nb)) (ha:0 < na/\na<=la.length) (hb:1 < nb/\nb<=lb.length) (hx:la[na - 1]?=some x) (q:∀ y∈tkR lb nb,lt y x=true) (hL:L<=o.length+1) :
  wpS M Ar E s (hi4 (arK F la) (arK F lb) (arK F o) na nb mg k k1) (HG F lt κ X pd tot la lb L) (SortSt.mk' κ X pd g none):=by
 unfold hi4;refine aI hx ?_;rw [cZ];have h':Mg (fun x y=>lt y x) tot (o++[x]) (tkR la (na - 1)) (tkR lb nb):=by
  rw [fM ha.1 hx] at h;exact Mg.left (A1:=[x]) h fun w hw y hy=>by rw [JD] at hw;subst hw;exact q y hy
 have hL':L<=(o++[x]).length:=by rw [Jr];exact hL
 by_cases c:na - 1=0
 ·rw [JB (by rw [c];rfl)];exact JY (.inl ⟨_,rfl,ql h' (.inl c)⟩)
 ·rw [Jz (by rw [Kg];exact c)];split
  ·exact JY (.inr ⟨rfl,_,_,rfl,rfl,hL',h',by dsimp only;omega,hb⟩)
  ·exact JY ⟨rfl,_,_,rfl,rfl,hL',h',by dsimp only;omega,hb⟩
variable (O:Ord lt N) (nd:tot.Nodup) (bd:∀ x∈tot,x < N) (hc:Cmp M Ar E s F lt N κ)
include O nd bd hc
theorem wO {o:List Nat} {na nb mg k bc y y0 g L:Nat} (hy0:lb[0]?=some y0) (hy0':∀ x∈la,lt y0 x=true) (h:Mg (fun x y=>lt y x) tot o (tkR la na) (tkR lb nb)) (ha:0 < na/\na<=la.length) (hb:1 < nb/\nb<=lb.length) (hy:lb[nb - 1]?=some y) (q:∀ x∈tkR la na,lt x y=true) (hL:L<=o.length+1) :
  wpS M Ar E s (hi3 (arK F la) (arK F lb) (arK F o) na nb mg k bc) (HG F lt κ X pd tot la lb L) (SortSt.mk' κ X pd g none):=by
 unfold hi3;refine aI hy ?_;rw [cZ];have h':Mg (fun x y=>lt y x) tot (o++[y]) (tkR la na) (tkR lb (nb - 1)):=by
  rw [fM (by omega) hy] at h;exact Mg.right (B1:=[y]) h fun w hw v hv=>by rw [JD] at hw;subst hw;exact q v hv
 have hL':L<=(o++[y]).length:=by rw [Jr];exact hL
 by_cases c:nb - 1=1
 ·rw [JB (by rw [c];rfl)];exact JY (.inl ⟨_,rfl,vj hy0 hy0' h' c⟩)
 ·rw [Jz (by rw [Kg];exact c)];obtain ⟨x,hx⟩:∃ x,la[na - 1]?=some x:=⟨_,Jq (by omega)⟩;refine aI hx ?_;have ex:=fM ha.1 hx;have hxm:x∈tkR la na:=by rw [ex];exact Jy ..
  have sb:=(JZ.mp h'.sb).2.1;refine J1 (oJ (S:=lb.take (nb - 1)) O hc rfl (by rw [List.drop_zero]) (by rw [Kp];omega) (by have:=K6.mpr sb;unfold tkR at this;rwa [List.reverse_reverse] at this) (fun w hw=>bd _ (h'.inB (K2.mpr hw))) (bd _ (h'.inA hxm)) (by omega) fun S1 S2 eS q1 q2=>?_);dsimp only;have hl:S1.length+S2.length=nb - 1:=by rw [<- Jr,<-eS,Kp];omega
  have q2':∀ w∈S2.reverse,lt x w=true:=fun w hw=>by
   have:=q2 w (K2.mp hw);rw [JB rfl] at this;exact Mg.les (lt:=fun x y=>lt y x) O.flip nd bd h'.symm (by rw [mx eS];exact J9 _ hw) hxm this
  have h2:Mg (fun x y=>lt y x) tot (o++[y]++S2.reverse) (tkR la na) (tkR lb S1.length):=by
   rw [mx eS] at h';refine h'.right ?_;rw [ex] at h' ⊢;exact h'.symm.low O.flip fun w hw=>q2' w hw
  have q1':∀ w∈tkR lb S1.length,lt w x=true:=fun w hw=>by
   unfold tkR at hw;rw [jH eS,K2] at hw;exact q1 w hw
  by_cases c2:nb - 1 - S1.length > 0
  ·rw [JB c2,wN eS,cF];by_cases c3:S1.length=1
   ·rw [JB (by rw [c3];rfl)];exact JY (.inl ⟨_,rfl,vj hy0 hy0' h2 c3⟩)
   ·rw [Jz (by rw [Kg];exact c3)];by_cases c4:S1.length=0
    ·rw [JB (by rw [c4];rfl)];exact JY (.inl ⟨_,rfl,ql h2 (.inr c4)⟩)
    ·rw [Jz (by rw [Kg];exact c4)];exact xb h2 ha (by omega) hx q1' (by rw [Jr];omega)
  ·rw [Jz c2];have e0:S1.length=nb - 1:=by omega
   rw [e0] at q1';exact xb h' ha (by omega) hx q1' (by omega)
theorem Dw {o:List Nat} {na nb mg ac bc y0 g L:Nat} (hy0:lb[0]?=some y0) (hy0':∀ x∈la,lt y0 x=true) (h:Mg (fun x y=>lt y x) tot o (tkR la na) (tkR lb nb)) (ha:0 < na/\na<=la.length) (hb:1 < nb/\nb<=lb.length) (hL:L<=o.length+1) :
  wpS M Ar E s (hi2 (arK F la) (arK F lb) (arK F o) na nb mg ac bc) (HG F lt κ X pd tot la lb L) (SortSt.mk' κ X pd g none):=by
 unfold hi2;rw [gc];refine J1 (LB ?_);obtain ⟨y,hy⟩:∃ y,lb[nb - 1]?=some y:=⟨_,Jq (by omega)⟩;refine aI hy ?_;have ey:=fM (by omega) hy;have hym:y∈tkR lb nb:=by rw [ey];exact Jy ..
 have sa:=(JZ.mp h.sa).2.1;refine J1 (oJ (S:=la.take na) O hc rfl (by rw [List.drop_zero]) (by rw [Kp];omega) (by have:=K6.mpr sa;unfold tkR at this;rwa [List.reverse_reverse] at this) (fun w hw=>bd _ (h.inA (K2.mpr hw))) (bd _ (h.inB hym)) (by omega) fun S1 S2 eS q1 q2=>?_);dsimp only;have hl:S1.length+S2.length=na:=by rw [<- Jr,<-eS,Kp];omega
 have q1':∀ w∈tkR la S1.length,lt w y=true:=fun w hw=>by
  unfold tkR at hw;rw [jH eS,K2] at hw;have:=q1 w hw;rw [Jz JL,Lo] at this;exact Mg.les (lt:=fun x y=>lt y x) O.flip nd bd h.symm hym (by rw [K2,eS];exact J9 _ hw) this
 have q2':∀ w∈S2.reverse,lt y w=true:=fun w hw=>by
  have:=q2 w (K2.mp hw)
  rwa [Jz JL,Bool.not_eq_false'] at this
 have h2:Mg (fun x y=>lt y x) tot (o++S2.reverse) (tkR la S1.length) (tkR lb nb):=by
  rw [mx eS] at h;refine h.left ?_;rw [ey] at h ⊢;exact h.low O.flip q2'
 by_cases c2:na - S1.length > 0
 ·rw [JB c2,wN eS,cF];by_cases c3:S1.length=0
  ·rw [JB (by rw [c3];rfl)];exact JY (.inl ⟨_,rfl,ql h2 (.inl c3)⟩)
  ·rw [Jz (by rw [Kg];exact c3)];exact wO O nd bd hc hy0 hy0' h2 (by omega) hb hy q1' (by rw [Jr];omega)
 ·rw [Jz c2];have e0:S1.length=na:=by omega
  rw [e0] at q1';exact wO O nd bd hc hy0 hy0' h ha hb hy q1' hL
theorem BL {o:List Nat} {na nb mg ac bc y0 g L:Nat} (hy0:lb[0]?=some y0) (hy0':∀ x∈la,lt y0 x=true) (h:Mg (fun x y=>lt y x) tot o (tkR la na) (tkR lb nb)) (ha:0 < na/\na<=la.length) (hb:1 < nb/\nb<=lb.length) (hL:L<=o.length+1) :
  wpS M Ar E s (hi1 (arK F la) (arK F lb) mg (none,na,nb,arK F o,ac,bc)) (fun r st=>(∃ c,r=.done c/\HD F lt κ X pd tot la lb L c.1 c.2.2.2.1 c.2.1 c.2.2.1 st)\/∃ c,r=.yield c/\c.1=none/\HI F lt κ X pd tot la lb L c.2.2.2.1 c.2.1 c.2.2.1 st) (SortSt.mk' κ X pd g none):=by
 unfold hi1;obtain ⟨y,hy⟩:∃ y,lb[nb - 1]?=some y:=⟨_,Jq (by omega)⟩;obtain ⟨x,hx⟩:∃ x,la[na - 1]?=some x:=⟨_,Jq (by omega)⟩;have ex:=fM ha.1 hx;have ey:=fM (by omega) hy;have hxm:x∈tkR la na:=by rw [ex];exact Jy ..
 have hym:y∈tkR lb nb:=by rw [ey];exact Jy ..
 dsimp only;refine aI hy (aI hx (J1 (hc _ _ _ _ rfl (bd _ (h.inB hym)) (bd _ (h.inA hxm)) ?_)));dsimp only;cases e:lt y x with
 | true =>
  rw [JB rfl];refine aI hx ?_;rw [cZ];have h':Mg (fun x y=>lt y x) tot (o++[x]) (tkR la (na - 1)) (tkR lb nb):=by
   rw [ex] at h;refine Mg.left (A1:=[x]) h ?_;rw [ey] at h ⊢;exact h.symm.uY O.flip e
  have hL':L<=(o++[x]).length:=by rw [Jr];exact hL
  by_cases c:na - 1=0
  ·rw [JB (by rw [c];rfl)];exact JY (.inl ⟨_,rfl,.inl ⟨_,rfl,ql h' (.inl c)⟩⟩)
  ·rw [Jz (by rw [Kg];exact c)];split
   ·exact JY (.inl ⟨_,rfl,.inr ⟨rfl,_,_,rfl,rfl,hL',h',by dsimp only;omega,hb⟩⟩)
   ·exact JY (.inr ⟨_,rfl,rfl,_,_,rfl,rfl,hL',h',by dsimp only;omega,hb⟩)
 | false =>
  rw [Jz JL];refine aI hy ?_;rw [cZ];have e':=Mg.les (lt:=fun x y=>lt y x) O.flip nd bd h.symm hym hxm e;have h':Mg (fun x y=>lt y x) tot (o++[y]) (tkR la na) (tkR lb (nb - 1)):=by
   rw [ey] at h;refine Mg.right (B1:=[y]) h ?_;rw [ex] at h ⊢;exact h.uY O.flip e'
  have hL':L<=(o++[y]).length:=by rw [Jr];exact hL
  by_cases c:nb - 1=1
  ·rw [JB (by rw [c];rfl)];exact JY (.inl ⟨_,rfl,.inl ⟨_,rfl,vj hy0 hy0' h' c⟩⟩)
  ·rw [Jz (by rw [Kg];exact c)];split
   ·exact JY (.inl ⟨_,rfl,.inr ⟨rfl,_,_,rfl,rfl,hL',h',ha,by dsimp only;omega⟩⟩)
   ·exact JY (.inr ⟨_,rfl,rfl,_,_,rfl,rfl,hL',h',ha,by dsimp only;omega⟩)
theorem tD {g z y0:Nat} {Q:Array Keyed->SortSt->Prop} (hz:la[la.length - 1]?=some z) (hz':∀ y∈lb,lt y z=true) (hy0:lb[0]?=some y0) (hy0':∀ x∈la,lt y0 x=true) (sa:la.Pairwise fun x y=>lt x y=true) (sb:lb.Pairwise fun x y=>lt x y=true) (et:tot=la++lb)
  (h:∀ r st,FI F lt κ X pd tot r st->Q r st):wpS M Ar E s (jL (arK F la) (arK F lb)) Q (SortSt.mk' κ X pd g none):=by
 have hal:1<=la.length:=by
  rcases Nat.eq_zero_or_pos la.length with e | e
  ·rw [Kd e] at hz;cases hz
  ·exact e
 have hbl:1<=lb.length:=by
  rcases Nat.eq_zero_or_pos lb.length with e | e
  ·rw [Kd e] at hy0;cases hy0
  ·exact e
 have hl:tot.length=la.length+lb.length:=by rw [et,Jr]
 have h0:Mg (fun x y=>lt y x) tot [z] (tkR la (la.length - 1)) (tkR lb lb.length):=by
  have m0:Mg (fun x y=>lt y x) tot [] (tkR la la.length) (tkR lb lb.length):=by
   unfold tkR;rw [KH,KH];exact ⟨K6.mpr sa,K6.mpr sb,by rw [et,List.nil_append];exact List.Perm.append (LF _) (LF _)⟩
  rw [fM hal hz] at m0;refine Mg.left (A1:=[z]) m0 fun w hw x hx=>?_;rw [JD] at hw;subst hw;unfold tkR at hx;rw [KH,K2] at hx;exact hz' x hx
 rw [lR];refine J1 (wpS_lift (KW ⟨rfl,?_⟩));rw [aN,aN];refine aI hz ?_;rw [show (#[F z]:Array Keyed)=arK F [z] from rfl];by_cases c:la.length - 1=0
 ·rw [JB (by rw [c];rfl)];exact JY (h _ _ (ql h0 (.inl c)))
 rw [Jz (by rw [Kg];exact c)];by_cases c:lb.length=1
 ·rw [JB (by rw [c];rfl)];exact JY (h _ _ (vj hy0 hy0' h0 c))
 rw [Jz (by rw [Kg];exact c)];refine J1 (L8 ?_);refine J1 (KZ (KD (I:=fun i (c:Option (Array Keyed)×Nat×Nat×Array Keyed×Nat) st=>c.1=none/\HI F lt κ X pd tot la lb (i+1) c.2.2.2.1 c.2.1 c.2.2.1 st) (Q:=fun (c:Option (Array Keyed)×Nat×Nat×Array Keyed×Nat) st=>∃ r,c.1=some r/\FI F lt κ X pd tot r st) ?_ ?_ ⟨rfl,[z],_,rfl,rfl,JH _,h0,by dsimp only;omega,by dsimp only;omega⟩) ?_)
 ·rintro i ⟨r,na,nb,out,mg⟩ st _ hi ⟨e,o,g,e1,rfl,hL,hM,ha,hb⟩;dsimp only at e e1 hM ha hb ⊢;subst e e1;refine J1 (KZ (KD (I:=fun j (c:DL) st=>c.1=none/\HI F lt κ X pd tot la lb (i+1+min j 1) c.2.2.2.1 c.2.1 c.2.2.1 st) (Q:=fun (c:DL) st=>HD F lt κ X pd tot la lb (i+2) c.1 c.2.2.2.1 c.2.1 c.2.2.1 st) ?_ ?_ ⟨rfl,o,_,rfl,rfl,hL,hM,ha,hb⟩) ?_)
  ·rintro j ⟨r,na,nb,out,ac,bc⟩ st _ hj ⟨e,o,g,e1,rfl,hL,hM,ha,hb⟩;dsimp only at e e1 hM ha hb hL ⊢;subst e e1;refine KZ (BL O nd bd hc (L:=i+2) hy0 hy0' hM ha hb (by omega)) ?_;rintro r st (⟨c,rfl,q⟩ | ⟨c,rfl,e,o,g,q1,q2,q3,q4⟩)
   ·exact q
   ·exact ⟨e,o,g,q1,q2,by omega,q4⟩
  ·rintro ⟨r,na,nb,out,ac,bc⟩ st ⟨e,o,g,q1,q2,q3,q4⟩;exact .inr ⟨e,o,g,q1,q2,by omega,q4⟩
  ·rintro ⟨r,na,nb,out,ac,bc⟩ st (⟨r,e,q⟩ | ⟨e,o,g,e1,rfl,hL,hM,ha,hb⟩)
   ·dsimp only at e ⊢;subst e;exact JY ⟨r,rfl,q⟩
   dsimp only at e e1 hM ha hb hL ⊢;subst e e1;refine J1 (wpS_lift (KW ⟨rfl,?_⟩));refine J1 (KZ (KD (I:=fun j (c:DG) st=>c.1=none/\HI F lt κ X pd tot la lb (i+2) c.2.2.2.1 c.2.1 c.2.2.1 st) (Q:=fun (c:DG) st=>HD F lt κ X pd tot la lb (i+2) c.1 c.2.2.2.1 c.2.1 c.2.2.1 st) ?_ ?_ ⟨rfl,o,_,rfl,rfl,hL,hM,ha,hb⟩) ?_)
   ·rintro j ⟨r,na,nb,out,mg,ac,bc⟩ st _ hj ⟨e,o,g,e1,rfl,hL,hM,ha,hb⟩;dsimp only at e e1 hM ha hb hL ⊢;subst e e1;split
    all_goals
     refine KZ (Dw O nd bd hc (L:=i+2) hy0 hy0' hM ha hb (by omega)) ?_;rintro (c | c) st q
     ·exact q
     ·exact q
   ·rintro ⟨r,na,nb,out,mg,ac,bc⟩ st ⟨e,q⟩;exact .inr ⟨e,q⟩
   ·rintro ⟨r,na,nb,out,mg,ac,bc⟩ st (⟨r,e,q⟩ | ⟨e,o,g,e1,rfl,hL,hM,ha,hb⟩)
    ·dsimp only at e ⊢;subst e;exact JY ⟨r,rfl,q⟩
    dsimp only at e e1 hM ha hb hL ⊢;subst e e1;rw [gc];exact J1 (LB (JY ⟨rfl,o,_,rfl,rfl,hL,hM,ha,hb⟩))
 ·rintro ⟨r,na,nb,out,mg⟩ st ⟨e,o,g,e1,rfl,hL,hM,ha,hb⟩;exfalso;have:=hM.len;dsimp only at this ha hb;rw [qC ha.2,qC hb.2] at this;omega
 ·rintro ⟨r,na,nb,out,mg⟩ st ⟨r,e,q⟩;dsimp only at e ⊢;subst e;exact JY (h _ _ q)
end
open PySem PySem.Spec PyProof.Rows PySem.W
noncomputable def putAll (n:Nat) (a:Array Keyed) (m:List (Keyed×Nat)):Array Keyed:=m.foldl (fun a p=>a.setIfInBounds (n+p.2) p.1) a
theorem k9 {n:Nat}:∀ (m U P T:List Keyed) (k:Nat) (a:Array Keyed),a.toList=P++U++T->P.length=n+k->U.length=m.length->(putAll n a (m.zipIdx k)).toList=P++m++T
 | [],[],P,T,k,a,h,_,_=>h
 | p :: m,u :: U,P,T,k,a,h,e,el=>by
  rw [List.zipIdx_cons];show (putAll n (a.setIfInBounds (n+k) p) (m.zipIdx (k+1))).toList=_;rw [k9 m U (P++[p]) T (k+1) _ (by rw [Array.toList_setIfInBounds,h,<-e];simp) (by rw [Jr,e];rfl) (by simpa using el)];simp
 | [],u :: U,P,T,k,a,h,_,el=>by cases el
 | p :: m,[],P,T,k,a,h,_,el=>by cases el
theorem sG {F:Nat->Keyed} {P U T o:List Nat} (h:U.length=o.length):putAll P.length (arK F (P++U++T)) (arK F o).toList.zipIdx=arK F (P++o++T):=by
 apply Array.toList_inj.mp;rw [k9 (arK F o).toList (U.map F) (P.map F) (T.map F) 0 _ (by simp [arK]) (by simp) (by simp [arK,h])];simp [arK]
section
variable {M:Model} {E:Value->Shared->Prop} {Ar:Around} {s:Shared} {F:Nat->Keyed} {lt:Nat->Nat->Bool} {N:Nat} {κ:SortKind} {pd:Array (Nat×Nat×Nat)}
theorem xS {σ:Type} {st st':σ} {Q:PUnit->σ->Prop} (h:Q ⟨⟩ st'):wpS M Ar E s (set st':StateT σ Sem PUnit) Q st:=by
 unfold wpS;rw [StateT.run_set];exact Jw ⟨rfl,h⟩
theorem pw_last {l:List Nat} {z:Nat} (hp:l.Pairwise fun x y=>lt x y=true) (hz:l[l.length - 1]?=some z) {x:Nat} (hx:x∈l):x=z\/lt x z=true:=by
 obtain ⟨i,hi,e⟩:=List.mem_iff_getElem.mp hx;obtain ⟨h1,e1⟩:=Js.mp hz;by_cases c:i=l.length - 1
 ·subst c;exact .inl (e.symm.trans e1)
 ·exact .inr (by have:=Kv.mp hp i (l.length - 1) hi h1 (by omega);rwa [e,e1] at this)
theorem rG {pre X Y post:List Nat} {i g pw pw2:Nat} {Q:Bool->SortSt->Prop} (O:Ord lt N) (nd:(X++Y).Nodup) (bd:∀ x∈X++Y,x < N) (hc:Cmp M Ar E s F lt N κ)
  (h1:pd[i]?=some (pre.length,X.length,pw)) (h2:pd[i+1]?=some (pre.length+X.length,Y.length,pw2)) (hX:X≠[]) (hY:Y≠[]) (sX:X.Pairwise fun x y=>lt x y=true) (sY:Y.Pairwise fun x y=>lt x y=true)
  (h:∀ Z g,Z.Pairwise (fun x y=>lt x y=true)->Z.Perm (X++Y)->Q true (SortSt.mk' κ (arK F (pre++Z++post)) ((pd.setIfInBounds i (pre.length,X.length+Y.length,pw)).eraseIdxIfInBounds (i+1)) g none)) :
  wpS M Ar E s (mergeAt' i) Q (SortSt.mk' κ (arK F (pre++(X++Y)++post)) pd g none):=by
 obtain ⟨y0,Y',rfl⟩:∃ y0 Y',Y=y0 :: Y':=by cases Y with | nil=>exact absurd rfl hY | cons a b=>exact ⟨a,b,rfl⟩
 have hXl:0 < X.length:=List.length_pos_iff.mpr hX;have dis:∀ x∈X,∀ y∈y0 :: Y',x≠y:=fun x hx y hy=>(Kf.mp nd).2.2 x hx y hy;have bX:∀ x∈X,x < N:=fun x hx=>bd x (J9 _ hx);have bY:∀ x∈y0 :: Y',x < N:=fun x hx=>bd x (Jx _ hx);have hy0:∀ y∈y0 :: Y',y0=y\/lt y0 y=true:=fun y hy=>by
  rcases JV.mp hy with rfl | hy
  ·exact .inl rfl
  ·exact .inr ((KQ.mp sY).1 _ hy)
 have up:∀ {x y:Nat},lt x y0=true->y∈y0 :: Y'->lt x y=true:=fun e hy=>by
  rcases hy0 _ hy with rfl | z
  ·exact e
  ·exact O.tr _ _ _ e z
 unfold mergeAt';refine J1 (L8 ?_);dsimp only [SortSt.mk'];rw [h1,h2];dsimp only;refine J1 (xS ?_);refine aI (x:=y0) (by rw [J0,Jv (by omega),J0,Jv (by omega)];simp) ?_;refine J1 (oJ (S:=X) O hc rfl (by simp) rfl sX bX (bY _ (Jy ..)) hXl fun X1 X2 eX q1 q2=>?_);dsimp only;have q1':∀ x∈X1,lt x y0=true:=fun x hx=>by
  have:=q1 x hx;rw [Jz JL,Lo] at this;have hx':x∈X:=by rw [eX];exact J9 _ hx
  exact O.tot _ _ (bY _ (Jy ..)) (bX _ hx') (Ne.symm (dis _ hx' _ (Jy ..))) this
 have q2':∀ x∈X2,lt y0 x=true:=fun x hx=>by
  have:=q2 x hx
  rwa [Jz JL,Bool.not_eq_false'] at this
 have hl:X.length=X1.length+X2.length:=by rw [eX,Jr]
 rw [show X.length - X1.length=X2.length by omega];by_cases c:X2.length=0
 ·rw [JB (by rw [c];rfl)];have e0:=Kd c;subst e0;rw [Kj] at eX;subst eX;exact JY (h _ _ (JZ.mpr ⟨sX,sY,fun x hx y hy=>up (q1' x hx) hy⟩) (Lg _))
 rw [Jz (by rw [Kg];exact c)];obtain ⟨z,hz⟩:∃ z,X2[X2.length - 1]?=some z:=⟨_,Jq (by omega)⟩;have hzm:z∈X2:=J5 hz;have hzX:z∈X:=by rw [eX];exact Jx _ hzm
 have sX2:X2.Pairwise fun x y=>lt x y=true:=by rw [eX] at sX;exact (JZ.mp sX).2.1
 refine aI (x:=z) (by rw [eX,show pre.length+X1.length+X2.length - 1=pre.length+(X1.length+(X2.length - 1)) by omega,J0,Jv (by omega),Le,J0,J0,Jv (by omega),Le,JM (by omega)];exact hz) ?_;refine J1 (oJ (S:=y0 :: Y') O hc rfl (by rw [<- J0,<-Jr,J0,LV,List.take_left]) rfl sY bY (bX _ hzX) (by simp) fun Y1 Y2 eY r1 r2=>?_);dsimp only;have r2':∀ y∈Y2,lt z y=true:=fun y hy=>by
  have:=r2 y hy;rw [JB rfl] at this;have hy':y∈y0 :: Y':=by rw [eY];exact Jx _ hy
  exact O.tot _ _ (bY _ hy') (bX _ hzX) (Ne.symm (dis _ hzX _ hy')) this
 have zup:∀ x∈X2,∀ y∈Y2,lt x y=true:=fun x hx y hy=>by
  rcases pw_last sX2 hz hx with rfl | e
  ·exact r2' y hy
  ·exact O.tr _ _ _ e (r2' y hy)
 by_cases c1:Y1.length=0
 ·exfalso;have e0:=Kd c1;subst e0;rw [List.nil_append] at eY;have a1:=r2' y0 (by rw [<- eY];exact Jy ..);have a2:=O.tr _ _ _ a1 (q2' z hzm);rw [O.irr] at a2;exact absurd a2 (by decide)
 rw [Jz (by rw [Kg];exact c1)];obtain ⟨B,eB⟩:∃ B,Y1=y0 :: B:=by
  cases Y1 with
  | nil=>exact absurd rfl c1
  | cons a b=>exact ⟨b,by rw [L7] at eY;rw [(List.cons.inj eY).1]⟩
 have ex:(arK F (pre++(X++y0 :: Y')++post)).extract (pre.length+X1.length) (pre.length+X.length)=arK F X2:=by
  rw [pL,eX,show pre.length+(X1++X2).length - (pre.length+X1.length)=X2.length by rw [Jr];omega];congr 1;rw [<- Jr,show pre++(X1++X2++y0 :: Y')++post=(pre++X1)++(X2++(y0 :: Y'++post)) by simp,LV,List.take_left]
 have ey:(arK F (pre++(X++y0 :: Y')++post)).extract (pre.length+X.length) (pre.length+X.length+Y1.length)=arK F Y1:=by
  rw [pL,Le,eY];congr 1;rw [<- Jr,show pre++(X++(Y1++Y2))++post=(pre++X)++(Y1++(Y2++post)) by simp,LV,List.take_left]
 rw [ex,ey];have sY1:=sY;rw [eY] at sY1;have hz':∀ y∈Y1,lt y z=true:=fun y hy=>by have:=r1 y hy;rwa [JB rfl] at this
 have nd2:(X2++Y1).Nodup:=by
  rw [eX,eY,J0] at nd;have n2:=(Kf.mp nd).2.1;rw [<- J0] at n2;exact (Kf.mp n2).1
 have bd2:∀ x∈X2++Y1,x < N:=fun x hx=>by
  rcases Kb.mp hx with hx | hx
  ·exact bX x (by rw [eX];exact Jx _ hx)
  ·exact bY x (by rw [eY];exact J9 _ hx)
 have fin:∀ (r:Array Keyed) (st:SortSt),FI F lt κ (arK F (pre++(X++y0 :: Y')++post)) ((pd.setIfInBounds i (pre.length,X.length+(y0 :: Y').length,pw)).eraseIdxIfInBounds (i+1)) (X2++Y1) r st ->
   wpS M Ar E s (do
    modify fun s=>setArr s (putAll (pre.length+X1.length) (arrOf s) r.toList.zipIdx)
    let st<-get
    pure (failedOf st).isNone) Q st:=by
  rintro _ _ ⟨o,g,rfl,rfl,so,po⟩;refine J1 (LB (J1 (L8 (JY ?_))));show Q true (SortSt.mk' κ (putAll (pre.length+X1.length) (arK F (pre++(X++y0 :: Y')++post)) (arK F o).toList.zipIdx) _ g none);have e1:putAll (pre.length+X1.length) (arK F (pre++(X++y0 :: Y')++post)) (arK F o).toList.zipIdx=arK F (pre++(X1++o++Y2)++post):=by
   rw [<- Jr,eX,eY,show pre++(X1++X2++(Y1++Y2))++post=(pre++X1)++(X2++Y1)++(Y2++post) by simp,sG po.length_eq.symm];simp
  rw [e1];refine h _ _ ?_ ?_
  ·have sX':=sX;rw [eX] at sX';rw [J0];refine JZ.mpr ⟨(JZ.mp sX').1,JZ.mpr ⟨so,(JZ.mp sY1).2.1,fun x hx y hy=>?_⟩,fun x hx y hy=>?_⟩
   ·rcases Kb.mp (po.mem_iff.mp hx) with hx | hx
    ·exact zup x hx y hy
    ·exact (JZ.mp sY1).2.2 x hx y hy
   ·rcases Kb.mp hy with hy | hy
    ·rcases Kb.mp (po.mem_iff.mp hy) with hy | hy
     ·exact (JZ.mp sX').2.2 x hx y hy
     ·exact up (q1' x hx) (by rw [eY];exact J9 _ hy)
    ·exact up (q1' x hx) (by rw [eY];exact Jx _ hy)
  ·rw [eX,eY,J0,J0];refine Lm _ ?_;rw [<- J0];exact List.Perm.append_right _ po
 split
 ·exact J1 (sR O nd2 bd2 hc hz hz' eB q2' sX2 (JZ.mp sY1).1 rfl fin)
 ·exact J1 (tD O nd2 bd2 hc hz hz' (y0:=y0) (by rw [eB];rfl) q2' sX2 (JZ.mp sY1).1 rfl fin)
end
open PySem PySem.Spec PyProof.Rows PySem.W
section
variable {F:Nat->Keyed}
theorem dQ {l:List Nat} {k:Nat}:(arK F l)[k]?=(l[k]?).map F:=by simp [arK]
theorem tW {pre S T:List Nat}:mirror (arK F (pre++(S++T))) pre.length (pre.length+S.length) ((pre.length+S.length - pre.length) / 2)=arK F (pre++(S.reverse++T)):=by
 apply Array.ext_getElem?;intro k;rw [getElem?_mirror_all (by rw [aN,Jr,Jr];omega),dQ,dQ,dQ];by_cases c1:k < pre.length
 ·rw [Jz (by omega),JM c1,JM c1]
 ·rw [Jv (l₁:=pre) (i:=k) (by omega),Jv (l₁:=pre) (i:=k) (by omega)];by_cases c2:k < pre.length+S.length
  ·rw [JB (by omega),Jv (by omega),JM (by omega),JM (by rw [LO];omega),List.getElem?_reverse (by omega)];congr 2;omega
  ·rw [Jz (by omega),Jv (l₁:=S) (by omega),Jv (l₁:=S.reverse) (by rw [LO];omega),LO]
theorem q0 {pre S1 S2 T:List Nat} {x:Nat}:bubble (arK F (pre++(S1++S2++x :: T))) (pre.length+(S1++S2).length) (pre.length+(S1++S2).length - (pre.length+S1.length))=arK F (pre++(S1++x :: S2++T)):=by
 apply Array.ext_getElem?;intro k;have hs:pre.length+(S1++S2).length < (arK F (pre++(S1++S2++x :: T))).size:=by rw [aN];simp only [Jr,J2];omega
 rw [getElem?_bubble hs _ (by omega),dQ,dQ,dQ,dQ,show pre++(S1++S2++x :: T)=(pre++S1)++(S2++x :: T) by simp,show pre++(S1++x :: S2++T)=(pre++S1)++(x :: (S2++T)) by simp];rw [Jr];have hl:(pre++S1).length=pre.length+S1.length:=Jr;have e0:pre.length+(S1.length+S2.length) - (pre.length+(S1.length+S2.length) - (pre.length+S1.length))=pre.length+S1.length:=by omega
 rw [e0];by_cases c1:k=pre.length+S1.length
 ·subst c1;rw [JB rfl,Jv (by omega),Jv (l₁:=pre++S1) (by omega),hl,show pre.length+(S1.length+S2.length) - (pre.length+S1.length)=S2.length by omega,Jv (by omega),LR,LR];rfl
 ·rw [Jz c1];by_cases c2:k < pre.length+S1.length
  ·rw [Jz (by omega),JM (l₁:=pre++S1) (by omega),JM (l₁:=pre++S1) (by omega)]
  ·by_cases c3:k<=pre.length+(S1.length+S2.length)
   ·rw [JB (by omega),Jv (by omega),Jv (l₁:=pre++S1) (i:=k) (by omega),hl,JM (by omega),show k - (pre.length+S1.length)=(k - 1 - (pre.length+S1.length))+1 by omega,List.getElem?_cons_succ,JM (by omega)]
   ·rw [Jz (by omega),Jv (by omega),Jv (l₁:=pre++S1) (i:=k) (by omega),hl,Jv (l₁:=S2) (by omega),show k - (pre.length+S1.length)=(k - (pre.length+S1.length) - 1)+1 by omega,List.getElem?_cons_succ,Jv (l₁:=S2) (by omega),show k - (pre.length+S1.length) - 1+1 - S2.length=(k - (pre.length+S1.length) - 1 - S2.length)+1 by omega,List.getElem?_cons_succ]
end
noncomputable def HM (lo:Nat) (c:Option (Option Nat)×Nat):StateT SortSt Sem (ForInStep (Option (Option Nat)×Nat)):=do
 let some smaller<-ltAt' (lo+c.2) (lo+c.2 - 1) | return .done (some none,c.2)
 if smaller then return .done (none,c.2)
 return .yield (none,c.2+1)
section
variable {M:Model} {E:Value->Shared->Prop} {Ar:Around} {s:Shared} {F:Nat->Keyed} {lt:Nat->Nat->Bool} {N:Nat} {κ:SortKind} {pd:Array (Nat×Nat×Nat)} {g:Nat}
theorem kJ {l:List Nat} {i j x y:Nat} {Q:Option Bool->SortSt->Prop} (hc:Cmp M Ar E s F lt N κ) (bd:∀ x∈l,x < N) (hi:l[i]?=some x) (hj:l[j]?=some y) (q:Q (some (lt x y)) (SortSt.mk' κ (arK F l) pd g none)):wpS M Ar E s (ltAt' i j) Q (SortSt.mk' κ (arK F l) pd g none):=by
 rw [ltAt'_eq];refine J1 (L8 ?_);exact aI hi (aI hj (hc _ _ _ _ rfl (bd _ (J5 hi)) (bd _ (J5 hj)) q))
theorem fE {pre S T:List Nat} {k x:Nat} (h:(S++T)[k]?=some x):(pre++(S++T))[pre.length+k]?=some x:=by rw [Jv (by omega),Le,h]
theorem qS {S:List Nat} (h:0 < S.length):∃ z,S[S.length - 1]?=some z:=⟨_,Jq (by omega)⟩
theorem pw_snoc {S:List Nat} {x y:Nat} (O:Ord lt N) (hp:S.Pairwise fun x y=>lt x y=true) (hz:S[S.length - 1]?=some x) (e:lt x y=true):(S++[y]).Pairwise fun x y=>lt x y=true:=by
 refine JZ.mpr ⟨hp,List.pairwise_singleton _ _,fun a ha b hb=>?_⟩;rw [JD] at hb;subst hb;rcases pw_last hp hz ha with rfl | z
 ·exact e
 ·exact O.tr _ _ _ z e
theorem AI {pre S T:List Nat} {n nrem:Nat} {Q:Option (Option Nat)×Nat->SortSt->Prop} (O:Ord lt N) (hc:Cmp M Ar E s F lt N κ) (bd:∀ x∈pre++(S++T),x < N) (nd:(S++T).Nodup) (hn:S.length=n) (h1:1<=n) (hr:(S++T).length=nrem) (sS:S.Pairwise fun x y=>lt x y=true)
  (h:∀ S' T',S'++T'=S++T->S'.Pairwise (fun x y=>lt x y=true)->n<=S'.length->(∀ x y T'',T'=y :: T''->S'[S'.length - 1]?=some x->lt y x=true)->Q (none,S'.length) (SortSt.mk' κ (arK F (pre++(S++T))) pd g none)) :
  wpS M Ar E s (forIn [n:nrem] ((none,n):Option (Option Nat)×Nat) fun _ c=>HM pre.length c) Q (SortSt.mk' κ (arK F (pre++(S++T))) pd g none):=by
 refine KD (I:=fun i (c:Option (Option Nat)×Nat) st=>c=(none,i)/\st=SortSt.mk' κ (arK F (pre++(S++T))) pd g none/\∃ S' T',S'++T'=S++T/\S'.Pairwise (fun x y=>lt x y=true)/\S'.length=i) ?_ ?_ ⟨rfl,rfl,S,T,rfl,sS,hn⟩
 ·rintro i _ _ hi1 hi2 ⟨rfl,rfl,S',T',e,sS',el⟩;unfold HM;dsimp only;obtain ⟨x,hx⟩:=qS (S:=S') (by omega);have hl:S'.length+T'.length=nrem:=by rw [<- Jr,e,hr]
  obtain ⟨y,T'',rfl⟩:∃ y T'',T'=y :: T'':=by cases T' with | nil=>rw [KN] at hl;omega | cons a b=>exact ⟨a,b,rfl⟩
  rw [<- e] at bd h nd ⊢;refine J1 (kJ hc bd (x:=y) (y:=x) (fE (by rw [<- el,Jv (JH _),LR];rfl)) (by rw [Nat.add_sub_assoc (by omega)];exact fE (by rw [<- el,JM (by omega)];exact hx)) ?_);dsimp only;cases c:lt y x with
  | true =>
   rw [JB rfl];have:=h S' (y :: T'') rfl sS' (by omega) (fun x' y' T3 e1 e2=>by rw [hx] at e2;injection e1 with e1 _;injection e2 with e2;subst e1 e2;exact c);rw [el] at this;exact JY this
  | false =>
   rw [Jz JL];have hne:x≠y:=(Kf.mp nd).2.2 x (J5 hx) y (Jy ..);have hxy:lt x y=true:=O.tot y x (bd _ (Jx _ (Jx _ (Jy ..)))) (bd _ (Jx _ (J9 _ (J5 hx)))) (Ne.symm hne) c;exact JY ⟨rfl,rfl,S'++[y],T'',by simp,pw_snoc O sS' hx hxy,by rw [Jr,el];rfl⟩
 ·rintro _ _ ⟨rfl,rfl,S',T',e,sS',el⟩;have hl:S'.length+T'.length=nrem:=by rw [<- Jr,e,hr]
  have hS:n<=nrem:=by rw [<- hr,<-hn,Jr];omega
  have e0:T'=[]:=Kd (by omega);subst e0;rw [<- el];exact h S' [] e sS' (by omega) (fun _ _ _ e1=>by cases e1)
theorem w_count {pre R:List Nat} {nrem:Nat} {Q:Option Nat->SortSt->Prop} (O:Ord lt N) (hc:Cmp M Ar E s F lt N κ) (bd:∀ x∈pre++R,x < N) (nd:R.Nodup) (hr:R.length=nrem) (h1:1<=nrem)
  (h:∀ S T,(S++T).Perm R->S.Pairwise (fun x y=>lt x y=true)->1<=S.length->Q (some S.length) (SortSt.mk' κ (arK F (pre++(S++T))) pd g none)) :
  wpS M Ar E s (countRun' pre.length nrem) Q (SortSt.mk' κ (arK F (pre++R)) pd g none):=by
 obtain ⟨a,R',rfl⟩:∃ a R',R=a :: R':=by cases R with | nil=>rw [KN] at hr;omega | cons a b=>exact ⟨a,b,rfl⟩
 rw [countRun'_eq];dsimp only;refine J1 (AI (S:=[a]) (T:=R') O hc bd nd rfl (JH _) hr (List.pairwise_singleton _ _) fun S T e sS hS hst=>?_);dsimp only;by_cases c:S.length=nrem
 ·rw [JB (by rw [c];exact Ks _),<-e];exact JY (h S T (by rw [e];exact Lg _) sS hS)
 rw [Jz (by rw [Kg];exact c)];by_cases c2:S.length > 1
 ·rw [JB c2];obtain ⟨z,hz⟩:=qS (S:=S) (by omega);have hSa:S[0]?=some a:=by
   cases S with
   | nil=>exact absurd hS (by decide)
   | cons b S=>rw [L7,List.singleton_append] at e;rw [(List.cons.inj e).1];rfl
  have hlt:lt a z=true:=by
   obtain ⟨u1,u2⟩:=Js.mp hSa;obtain ⟨u3,u4⟩:=Js.mp hz;have:=Kv.mp sS 0 (S.length - 1) u1 u3 (by omega)
   rwa [u2,u4] at this
  rw [<- e];refine J1 (kJ hc (by rw [e];exact bd) (x:=a) (y:=z) (by rw [<- Nat.add_zero pre.length];exact fE (by rw [JM (by omega)];exact hSa)) (by rw [Nat.add_sub_assoc (by omega)];exact fE (by rw [JM (by omega)];exact hz)) ?_);dsimp only;rw [hlt,JB rfl];exact JY (h S T (by rw [e];exact Lg _) sS hS)
 rw [Jz c2];refine J1 (wpS_lift (KW ⟨rfl,?_⟩));have hS1:S.length=1:=by omega
 obtain ⟨rfl,rfl⟩:S=[a]/\T=R':=List.append_inj e hS1;rw [Ll];obtain ⟨b,R2,rfl⟩:∃ b R2,T=b :: R2:=by cases T with | nil=>exact absurd hr c | cons a b=>exact ⟨a,b,rfl⟩
 have hba:=hst a b R2 rfl rfl
 refine J1 (KZ (KD (I:=fun i (c:Option (Option Nat)×Nat×Nat) st=>c=(none,i,0)/\st=SortSt.mk' κ (arK F (pre++([a]++b :: R2))) pd g none/\∃ S' T',S'++T'=[a]++b :: R2/\S'.Pairwise (fun x y=>lt y x=true)/\S'.length=i/\2<=i)
  (Q:=fun (c:Option (Option Nat)×Nat×Nat) st=>∃ n,c=(none,n,0)/\st=SortSt.mk' κ (arK F (pre++([a]++b :: R2))) pd g none/\∃ S' T',S'++T'=[a]++b :: R2/\S'.Pairwise (fun x y=>lt y x=true)/\S'.length=n/\2<=n)
  ?_ (fun c st z=>⟨_,z⟩) ⟨rfl,rfl,[a,b],R2,rfl,by simpa using hba,rfl,JH _⟩) ?_)
 ·rintro i _ _ hi1 hi2 ⟨rfl,rfl,S',T',e,sS',el,h2⟩;dsimp only;obtain ⟨x,hx⟩:=qS (S:=S') (by omega);have hl:S'.length+T'.length=nrem:=by rw [<- Jr,e,<-hr];rfl
  obtain ⟨y,T'',rfl⟩:∃ y T'',T'=y :: T'':=by cases T' with | nil=>rw [KN] at hl;omega | cons a b=>exact ⟨a,b,rfl⟩
  have bd':∀ x∈pre++(S'++y :: T''),x < N:=by rw [e];exact bd
  have nd':(S'++y :: T'').Nodup:=by rw [e];exact nd
  have gy:(pre++(S'++y :: T''))[pre.length+i]?=some y:=fE (by rw [<- el,Jv (JH _),LR];rfl);have gx:(pre++(S'++y :: T''))[pre.length+i - 1]?=some x:=by rw [Nat.add_sub_assoc (by omega)];exact fE (by rw [<- el,JM (by omega)];exact hx)
  rw [<- e];refine J1 (kJ hc bd' gy gx ?_);dsimp only;cases c:lt y x with
  | true =>
   rw [JB rfl,Jz (by decide)];exact JY ⟨rfl,rfl,S'++[y],T'',by simp,pw_snoc (lt:=fun x y=>lt y x) O.flip sS' hx c,by rw [Jr,el];rfl,by omega⟩
  | false =>
   rw [Jz JL];have hne:x≠y:=(Kf.mp nd').2.2 x (J5 hx) y (Jy ..);have hxy:lt x y=true:=O.tot y x (bd' _ (Jx _ (Jx _ (Jy ..)))) (bd' _ (Jx _ (J9 _ (J5 hx)))) (Ne.symm hne) c;refine J1 (kJ hc bd' gx gy ?_);dsimp only;rw [hxy,JB rfl];exact JY ⟨i,rfl,rfl,S',_,rfl,sS',el,h2⟩
 ·rintro _ _ ⟨n,rfl,rfl,S',T',e,sS',el,h2⟩;dsimp only;rw [Jz (by decide),reverseSlice'_eq,<-e];refine J1 (LB ?_);have em:mirror (arK F (pre++(S'++T'))) pre.length (pre.length+n) ((pre.length+n - pre.length) / 2)=arK F (pre++(S'.reverse++T')):=by rw [<- el];exact tW
  show wpS M Ar E s _ Q (SortSt.mk' κ (mirror (arK F (pre++(S'++T'))) pre.length (pre.length+n) ((pre.length+n - pre.length) / 2)) pd g none);rw [em];have pr:(S'.reverse++T').Perm ([a]++b :: R2):=by rw [<- e];exact List.Perm.append_right _ (LF _)
  refine J1 (AI (S:=S'.reverse) (T:=T') O hc (fun x hx=>?_) (pr.nodup_iff.mpr nd) (by rw [LO];exact el) (by omega) (by rw [pr.length_eq];exact hr) (K6.mpr sS') fun S3 T3 e3 s3 l3 _=>?_)
  ·rcases Kb.mp hx with hx | hx
   ·exact bd x (J9 _ hx)
   ·exact bd x (Jx _ (pr.mem_iff.mp hx))
  ·dsimp only;rw [<- e3] at pr ⊢;exact JY (h S3 T3 pr s3 (by omega))
noncomputable def plB (lo k:Nat) (c:Option Bool×Nat×Nat):StateT SortSt Sem (ForInStep (Option Bool×Nat×Nat)) :=
 if c.2.1>=c.2.2 then pure (.done (none,c.2.1,c.2.2)) else do
  let some less<-ltAt' (lo+k) (lo+(c.2.1+c.2.2) / 2) | return .done (some false,c.2.1,c.2.2)
  if less then return .yield (none,c.2.1,(c.2.1+c.2.2) / 2)
  return .yield (none,(c.2.1+c.2.2) / 2+1,c.2.2)
theorem xj {pre S T:List Nat} {k y:Nat} {Q:Option Bool×Nat×Nat->SortSt->Prop} (O:Ord lt N) (hc:Cmp M Ar E s F lt N κ) (bd:∀ x∈pre++(S++y :: T),x < N) (nd:(S++y :: T).Nodup) (hk:S.length=k) (sS:S.Pairwise fun x y=>lt x y=true)
  (h:∀ S1 S2,S=S1++S2->(∀ x∈S1,lt x y=true)->(∀ x∈S2,lt y x=true)->∀ r,Q (none,S1.length,r) (SortSt.mk' κ (arK F (pre++(S++y :: T))) pd g none)) :
  wpS M Ar E s (forIn [0:k] ((none,0,k):Option Bool×Nat×Nat) fun _ c=>plB pre.length k c) Q (SortSt.mk' κ (arK F (pre++(S++y :: T))) pd g none):=by
 have fin:∀ l,l<=k->(∀ i,i < l->∀ x,S[i]?=some x->lt y x=false)->(∀ i,l<=i->i < k->∀ x,S[i]?=some x->lt y x=true)->∀ r,Q (none,l,r) (SortSt.mk' κ (arK F (pre++(S++y :: T))) pd g none):=fun l hl a1 a2 r=>by
  obtain ⟨S1,S2,e,el,b1,b2⟩:=oo (S:=S) (P:=fun x=>!lt y x) (k:=l) (by omega) (fun i hi x e=>by rw [a1 i hi x e];rfl) (fun i hi hi' x e=>by rw [a2 i hi (by omega) x e];rfl);rw [<- el];refine h S1 S2 e (fun x hx=>?_) (fun x hx=>?_) r
  ·have b:=b1 x hx;rw [Lo] at b;have hx':x∈S:=by rw [e];exact J9 _ hx
   exact O.tot _ _ (bd _ (Jx _ (Jx _ (Jy ..)))) (bd _ (Jx _ (J9 _ hx'))) (Ne.symm ((Kf.mp nd).2.2 x hx' y (Jy ..))) b
  ·have b:=b2 x hx
   rwa [Bool.not_eq_false'] at b
 have mono:∀ i j x x',i < j->S[i]?=some x->S[j]?=some x'->lt x x'=true:=fun i j x x' hij e1 e2=>by
  obtain ⟨u1,u2⟩:=Js.mp e1;obtain ⟨u3,u4⟩:=Js.mp e2;have:=Kv.mp sS i j u1 u3 hij
  rwa [u2,u4] at this
 refine KD (I:=fun i (c:Option Bool×Nat×Nat) st=>st=SortSt.mk' κ (arK F (pre++(S++y :: T))) pd g none/\c.1=none/\c.2.1<=c.2.2/\c.2.2<=k/\c.2.2 - c.2.1<=k - i/\(∀ i,i < c.2.1->∀ x,S[i]?=some x->lt y x=false)/\(∀ i,c.2.2<=i->i < k->∀ x,S[i]?=some x->lt y x=true)) ?_ ?_ ⟨rfl,rfl,KA _,JH _,JH _,fun i z=>absurd z (Nat.not_lt_zero _),fun i z z'=>absurd z (by dsimp only;omega)⟩
 ·rintro i ⟨r,lo,hi⟩ _ _ hi' ⟨rfl,e,a1,a2,a3,a4,a5⟩;dsimp only at e a1 a2 a3 a4 a5;subst e;unfold plB;dsimp only;by_cases c:lo>=hi
  ·rw [JB c];exact JY (fin lo (by omega) a4 (fun i z z'=>a5 i (by omega) z') hi)
  ·rw [Jz c];obtain ⟨x,hx⟩:∃ x,S[(lo+hi) / 2]?=some x:=⟨_,Jq (by omega)⟩;refine J1 (kJ hc bd (x:=y) (y:=x) (fE (by rw [<- hk,Jv (JH _),LR];rfl)) (fE (by rw [JM (by omega)];exact hx)) ?_);dsimp only;cases e:lt y x with
   | true =>
    rw [JB rfl];refine JY ⟨rfl,rfl,by dsimp only;omega,by dsimp only;omega,by dsimp only;omega,a4,fun i z z' x' hx'=>?_⟩;dsimp only at z;rcases Nat.lt_or_eq_of_le z with z | z
    ·exact O.tr _ _ _ e (mono _ _ _ _ z hx hx')
    ·rw [<- z,hx] at hx';injection hx' with hx';rw [<- hx'];exact e
   | false =>
    rw [Jz JL];refine JY ⟨rfl,rfl,by dsimp only;omega,by dsimp only;omega,by dsimp only;omega,fun i z x' hx'=>?_,a5⟩;dsimp only at z;by_cases z2:i=(lo+hi) / 2
    ·rw [z2,hx] at hx';injection hx' with hx';rw [<- hx'];exact e
    ·cases e2:lt y x' with
     | false=>rfl
     | true=>rw [O.tr _ _ _ e2 (mono _ _ _ _ (by omega) hx' hx)] at e;exact absurd e (by decide)
 ·rintro ⟨r,lo,hi⟩ _ ⟨rfl,e,a1,a2,a3,a4,a5⟩;dsimp only at e a1 a2 a3 a4 a5;subst e;exact fin lo (by omega) a4 (fun i z z'=>a5 i (by omega) z') hi
theorem Fi {pre R:List Nat} {n ok:Nat} {S T:List Nat} {Q:Bool->SortSt->Prop} (O:Ord lt N) (hc:Cmp M Ar E s F lt N κ) (bd:∀ x∈pre++(S++T),x < N) (nd:(S++T).Nodup) (hS:S.length=ok) (h1:1<=ok) (hn:ok<=n) (hr:n<=(S++T).length) (sS:S.Pairwise fun x y=>lt x y=true)
  (h:∀ S' T',(S'++T').Perm (S++T)->S'.Pairwise (fun x y=>lt x y=true)->S'.length=n->Q true (SortSt.mk' κ (arK F (pre++(S'++T'))) pd g none)) :
  wpS M Ar E s (binarySort' pre.length n ok) Q (SortSt.mk' κ (arK F (pre++(S++T))) pd g none):=by
 rw [binarySort'_eq,Nat.max_eq_left h1];dsimp only
 refine J1 (KZ (KD (I:=fun k (c:Option Bool×PUnit) st=>c=(none,⟨⟩)/\∃ S' T',(S'++T').Perm (S++T)/\S'.Pairwise (fun x y=>lt x y=true)/\S'.length=k/\st=SortSt.mk' κ (arK F (pre++(S'++T'))) pd g none)
  (Q:=fun (c:Option Bool×PUnit) st=>c=(none,⟨⟩)/\∃ S' T',(S'++T').Perm (S++T)/\S'.Pairwise (fun x y=>lt x y=true)/\S'.length=n/\st=SortSt.mk' κ (arK F (pre++(S'++T'))) pd g none) ?_ ?_ ⟨rfl,S,T,Lg _,sS,hS,rfl⟩) ?_)
 ·rintro k _ _ hk1 hk2 ⟨rfl,S',T',pm,sS',el,rfl⟩;have hl:S'.length+T'.length=(S++T).length:=by rw [<- Jr,pm.length_eq]
  obtain ⟨y,T'',rfl⟩:∃ y T'',T'=y :: T'':=by cases T' with | nil=>rw [KN] at hl;omega | cons a b=>exact ⟨a,b,rfl⟩
  refine J1 (xj O hc (fun x hx=>?_) (pm.nodup_iff.mpr nd) el sS' fun S1 S2 e q1 q2 r=>?_)
  ·rcases Kb.mp hx with hx | hx
   ·exact bd x (J9 _ hx)
   ·exact bd x (Jx _ (pm.mem_iff.mp hx))
  ·dsimp only;rw [moveDown'_eq];refine J1 (LB (JY ⟨rfl,S1++y :: S2,T'',?_,?_,?_,?_⟩))
   ·refine List.Perm.trans ?_ pm;rw [e,J0,J0];refine Lm _ ?_;rw [L7];exact List.perm_middle.symm
   ·rw [e] at sS';have z:=JZ.mp sS';refine JZ.mpr ⟨z.1,KQ.mpr ⟨q2,z.2.1⟩,fun a ha b hb=>?_⟩;rcases JV.mp hb with rfl | hb
    ·exact q1 a ha
    ·exact z.2.2 a ha b hb
   ·rw [<- el,e];simp only [Jr,J2];omega
   ·have eb:=q0 (F:=F) (pre:=pre) (S1:=S1) (S2:=S2) (T:=T'') (x:=y);rw [<- e,el] at eb;show SortSt.mk' κ (bubble (arK F (pre++(S'++y :: T''))) (pre.length+k) (pre.length+k - (pre.length+S1.length))) pd g none=_;rw [eb]
 ·rintro _ _ ⟨rfl,S',T',pm,sS',el,rfl⟩;exact ⟨rfl,S',T',pm,sS',by omega,rfl⟩
 ·rintro _ _ ⟨rfl,S',T',pm,sS',el,rfl⟩;exact JY (h S' T' pm sS' el)
end
open PySem PySem.Spec PyProof.Rows PySem.W
def Mt (lt:Nat->Nat->Bool):List (Nat×Nat×Nat)->Nat->List Nat->Prop
 | [],_,l=>l=[]
 | r :: ps,s,l=>r.1=s/\∃ X l',l=X++l'/\X.length=r.2.1/\X≠[]/\X.Pairwise (fun x y=>lt x y=true)/\Mt lt ps (s+r.2.1) l'
section
variable {lt:Nat->Nat->Bool}
theorem Mt.app:∀ {ps qs:List (Nat×Nat×Nat)} {s:Nat} {l:List Nat},Mt lt (ps++qs) s l->∃ l1 l2,l=l1++l2/\Mt lt ps s l1/\Mt lt qs (s+l1.length) l2
 | [],qs,s,l,h=>⟨[],l,rfl,rfl,h⟩
 | r :: ps,qs,s,l,h=>by
  obtain ⟨e,X,l',rfl,el,hX,sX,h⟩:=h;obtain ⟨l1,l2,rfl,h1,h2⟩:=Mt.app h;exact ⟨X++l1,l2,(J0 ..).symm,⟨e,X,l1,rfl,el,hX,sX,h1⟩,by rw [Jr,el,<-Nat.add_assoc];exact h2⟩
theorem Mt.FK:∀ {ps qs:List (Nat×Nat×Nat)} {s:Nat} {l1 l2:List Nat},Mt lt ps s l1->Mt lt qs (s+l1.length) l2->Mt lt (ps++qs) s (l1++l2)
 | [],qs,s,l1,l2,h,h2=>by
  have h:l1=[]:=h;subst h;exact h2
 | r :: ps,qs,s,l1,l2,h,h2=>by
  obtain ⟨e,X,l',rfl,el,hX,sX,h⟩:=h;exact ⟨e,X,l'++l2,J0 ..,el,hX,sX,Mt.FK h (by rw [Jr,el,<-Nat.add_assoc] at h2;exact h2)⟩
theorem Mt.len:∀ {ps:List (Nat×Nat×Nat)} {s:Nat} {l:List Nat},Mt lt ps s l->ps.length<=l.length
 | [],s,l,h=>KA _
 | r :: ps,s,l,h=>by
  obtain ⟨e,X,l',rfl,el,hX,sX,h⟩:=h;have:=List.length_pos_iff.mpr hX;have:=Mt.len h;rw [Jr,J2];omega
theorem Mt.mod {f:Nat×Nat×Nat->Nat×Nat×Nat} (hf:∀ r,(f r).1=r.1/\(f r).2.1=r.2.1):∀ {ps:List (Nat×Nat×Nat)} {i s:Nat} {l:List Nat},Mt lt ps s l->Mt lt (ps.modify i f) s l
 | [],i,s,l,h=>by rw [List.modify_nil];exact h
 | r :: ps,0,s,l,h=>by
  rw [List.modify_zero_cons];unfold Mt at h ⊢;rw [(hf r).1,(hf r).2];exact h
 | r :: ps,i+1,s,l,h=>by
  rw [List.modify_succ_cons];obtain ⟨e,X,l',rfl,el,hX,sX,h⟩:=h;exact ⟨e,X,l',rfl,el,hX,sX,Mt.mod hf h⟩
theorem Mt.IC {ps:List (Nat×Nat×Nat)} {s:Nat} {l:List Nat} (h:Mt lt ps s l) (e:ps.length<=1):l.Pairwise fun x y=>lt x y=true:=by
 match ps,h,e with
 | [],h,_ =>
  have h:l=[]:=h;subst h;exact List.Pairwise.nil
 | [r],h,_ =>
  obtain ⟨e,X,l',rfl,el,hX,sX,h⟩:=h;have h:l'=[]:=h;subst h;rw [Kj];exact sX
end
section
variable {M:Model} {E:Value->Shared->Prop} {Ar:Around} {s:Shared} {F:Nat->Keyed} {lt:Nat->Nat->Bool} {N:Nat} {κ:SortKind} {l0:List Nat}
def SoI (F:Nat->Keyed) (lt:Nat->Nat->Bool) (κ:SortKind) (l0:List Nat) (k:Nat) (ps:List (Nat×Nat×Nat)) (R:List Nat) (st:SortSt):Prop :=
 ∃ l1 g,st=SortSt.mk' κ (arK F (l1++R)) ps.toArray g none/\Mt lt ps 0 l1/\l1.length=k/\(l1++R).Perm l0
variable (O:Ord lt N) (nd:l0.Nodup) (bd:∀ x∈l0,x < N) (hc:Cmp M Ar E s F lt N κ)
include O nd bd hc
theorem Ah {ps:List (Nat×Nat×Nat)} {R:List Nat} {i k:Nat} {st:SortSt} {Q:Bool->SortSt->Prop} (h:SoI F lt κ l0 k ps R st) (hi:i+1 < ps.length) (q:∀ ps' st,ps'.length+1=ps.length->SoI F lt κ l0 k ps' R st->Q true st):wpS M Ar E s (mergeAt' i) Q st:=by
 obtain ⟨l1,g,rfl,hM,hk,pm⟩:=h;obtain ⟨p1,r1,r2,p2,rfl,e1⟩:∃ p1 r1 r2 p2,ps=p1++r1 :: r2 :: p2/\p1.length=i:=by
  refine ⟨ps.take i,ps[i],ps[i+1],ps.drop (i+2),?_,by rw [Kp];omega⟩;rw [<- KO (by omega),<-KO (by omega),List.take_append_drop]
 obtain ⟨u,v,rfl,m1,m2⟩:=hM.app;rw [Nat.zero_add] at m2;obtain ⟨a1,X,v1,rfl,xl,hX,sX,a2,Y,v2,rfl,yl,hY,sY,m3⟩:=m2;have ea:arK F (u++(X++(Y++v2))++R)=arK F (u++(X++Y)++(v2++R)):=by simp
 rw [ea];have pm':(u++(X++Y)++(v2++R)).Perm l0:=by simpa using pm
 have ndw:(X++Y).Nodup:=by
  have:=pm'.nodup_iff.mpr nd;rw [J0] at this;exact (Kf.mp (Kf.mp this).2.1).1
 refine rG (pw:=r1.2.2) (pw2:=r2.2.2) O ndw (fun x hx=>bd x (pm'.mem_iff.mp (J9 _ (Jx _ hx)))) hc ?_ ?_ hX hY sX sY fun Z g' sZ pZ=>?_
 ·rw [Mh,<-e1,Jv (JH _),LR,<-a1,xl];rfl
 ·rw [Mh,<-e1,Jv (by omega),Le,yl,xl,<-a2];rfl
 ·have hl:Z.length=X.length+Y.length:=by rw [pZ.length_eq,Jr]
  refine q (p1++(u.length,X.length+Y.length,r1.2.2) :: p2) _ ?_ ⟨u++(Z++v2),g',?_,?_,?_,?_⟩
  ·simp only [Jr,J2];omega
  ·have e2:(((p1++r1 :: r2 :: p2).toArray.setIfInBounds i (u.length,X.length+Y.length,r1.2.2)).eraseIdxIfInBounds (i+1))=(p1++(u.length,X.length+Y.length,r1.2.2) :: p2).toArray:=by
    apply Array.toList_inj.mp;rw [Array.toList_eraseIdxIfInBounds,Array.toList_setIfInBounds,<-e1];simp [List.eraseIdx_append_of_length_le]
   rw [e2];simp
  ·refine m1.FK ⟨by rw [Nat.zero_add],Z,v2,rfl,hl,fun e=>?_,sZ,?_⟩
   ·rw [e,KN] at hl;have:=List.length_pos_iff.mpr hX;omega
   ·rw [Nat.zero_add,xl,yl,<-Nat.add_assoc];exact m3
  ·simp only [Jr] at hk ⊢;omega
  ·refine List.Perm.trans ?_ pm';rw [show u++(Z++v2)++R=u++Z++(v2++R) by simp];exact List.Perm.append_right _ (Lm _ pZ)
omit O nd bd hc
noncomputable def sr3 (size lo n:Nat):StateT SortSt Sem (ForInStep (Option Unit×Nat)):=do
 let st<-get
 match (pendingOf st).back? with
 | some (s1,n1,_)=>do
  let c<-forIn [0:size] ((none,()):Option Unit×Unit) fun _ _=>do
   let st<-get
   match (if (pendingOf st).size > 1 then (pendingOf st)[(pendingOf st).size - 2]? else none) with
   | some (_,_,older) =>
    if older<=power' size (2*s1+n1) (2*s1+n1+n1+n) size then pure (.done (none,()))
    else do
     let b<-mergeAt' ((pendingOf st).size - 2)
     if (!b)=true then pure (.done (some (),())) else pure (.yield (none,()))
   | _=>pure (.done (none,()))
  match c.1 with
  | some r=>pure (.done (some r,lo))
  | none=>do
   modify fun s=>setPending s ((pendingOf s).modify ((pendingOf s).size - 1) fun x=>(x.1,x.2.1,power' size (2*s1+n1) (2*s1+n1+n1+n) size))
   modify fun s=>setPending s ((pendingOf s).push (lo,n,0))
   pure (.yield (none,lo+n))
 | _=>do
  modify fun s=>setPending s ((pendingOf s).push (lo,n,0))
  pure (.yield (none,lo+n))
include O nd bd hc
theorem CA {ps:List (Nat×Nat×Nat)} {S T:List Nat} {lo size:Nat} {st:SortSt} {Q:ForInStep (Option Unit×Nat)->SortSt->Prop} (h:SoI F lt κ l0 lo ps (S++T) st) (sS:S.Pairwise fun x y=>lt x y=true) (hS:1<=S.length)
  (q:∀ ps' st,SoI F lt κ l0 (lo+S.length) ps' T st->Q (.yield (none,lo+S.length)) st):wpS M Ar E s (sr3 size lo S.length) Q st:=by
 have push:∀ {ps st},SoI F lt κ l0 lo ps (S++T) st->SoI F lt κ l0 (lo+S.length) (ps++[(lo,S.length,0)]) T (setPending st ((pendingOf st).push (lo,S.length,0))):=by
  rintro ps _ ⟨l1,g,rfl,hM,hk,pm⟩;refine ⟨l1++S,g,?_,hM.FK ⟨by rw [Nat.zero_add,hk],S,[],by rw [Kj],rfl,fun e=>by rw [e] at hS;exact absurd hS (by decide),sS,rfl⟩,by rw [Jr,hk],by rw [J0];exact pm⟩;show SortSt.mk' κ (arK F (l1++(S++T))) (ps.toArray.push _) g none=_;rw [List.push_toArray,J0]
 unfold sr3;refine J1 (L8 ?_);cases e:(pendingOf st).back? with
 | none =>
  dsimp only;exact J1 (LB (JY (q _ _ (push h))))
 | some r =>
  obtain ⟨s1,n1,p1⟩:=r;dsimp only;refine J1 (KZ (KD (I:=fun _ (c:Option Unit×Unit) st=>c.1=none/\∃ ps,SoI F lt κ l0 lo ps (S++T) st) (Q:=fun (c:Option Unit×Unit) st=>c.1=none/\∃ ps,SoI F lt κ l0 lo ps (S++T) st) ?_ (fun _ _ z=>z) ⟨rfl,ps,h⟩) ?_)
  ·rintro i ⟨r,⟨⟩⟩ st _ _ ⟨e,ps,h⟩;refine J1 (L8 ?_);have ep:(pendingOf st).size=ps.length:=by obtain ⟨l1,g,rfl,hM,hk,pm⟩:=h;exact JR
   split
   ·split
    ·exact JY ⟨rfl,ps,h⟩
    ·rename_i fst fst_1 older hp hold;have h1:(pendingOf st).size > 1:=by
      by_cases c:(pendingOf st).size > 1
      ·exact c
      ·rw [Jz c] at hp;cases hp
     refine J1 (Ah O nd bd hc h (by omega) fun ps' st' _ h'=>?_);rw [Jz (by decide)];exact JY ⟨rfl,ps',h'⟩
   ·exact JY ⟨rfl,ps,h⟩
  ·rintro ⟨r,⟨⟩⟩ st ⟨e,ps,h⟩;dsimp only at e ⊢;subst e;refine J1 (LB (J1 (LB (JY (q _ _ (push (ps:=ps.modify (ps.length - 1) fun x=>(x.1,x.2.1,power' size (2*s1+n1) (2*s1+n1+n1+S.length) size)) ?_))))))
   ·obtain ⟨l1,g,rfl,hM,hk,pm⟩:=h;refine ⟨l1,g,?_,Mt.mod (f:=fun x=>(x.1,x.2.1,power' size (2*s1+n1) (2*s1+n1+n1+S.length) size)) (fun _=>⟨rfl,rfl⟩) hM,hk,pm⟩;show SortSt.mk' κ (arK F (l1++(S++T))) (ps.toArray.modify (ps.toArray.size - 1) _) g none=_;congr 1;rw [JR,List.modify_toArray]
theorem Cc {p0:List Nat} {g:Nat} {Q:Unit->SortSt->Prop} (h0:p0.Perm l0) (h:∀ l g ps,l.Perm l0->l.Pairwise (fun x y=>lt x y=true)->Q () (SortSt.mk' κ (arK F l) ps g none)) :
  wpS M Ar E s sortRuns' Q (SortSt.mk' κ (arK F p0) #[] g none):=by
 have hl0:=h0.length_eq;rw [sortRuns'_eq];refine J1 (L8 ?_);rw [show (arrOf (SortSt.mk' κ (arK F p0) #[] g none)).size=l0.length by rw [<- hl0];exact aN];dsimp only;generalize minRun' l0.length l0.length 0=mr;refine J1 (KZ (KD (I:=fun i (c:Option Unit×Nat) st=>c.1=none/\i<=c.2/\∃ ps R,SoI F lt κ l0 c.2 ps R st) (Q:=fun (c:Option Unit×Nat) st=>c.1=none/\∃ ps,SoI F lt κ l0 l0.length ps [] st) ?_ ?_ ⟨rfl,JH _,[],p0,[],g,rfl,rfl,rfl,h0⟩) ?_)
 ·rintro i ⟨r,lo⟩ st _ hi ⟨e,h1,ps,R,h2⟩;dsimp only at e h1 h2 ⊢;subst e;by_cases c:lo>=l0.length
  ·rw [JB c];refine JY ⟨rfl,ps,?_⟩;obtain ⟨l1,g,rfl,hM,hk,pm⟩:=h2;have:=pm.length_eq;rw [Jr] at this;have e0:R=[]:=Kd (by omega);subst e0;exact ⟨l1,g,rfl,hM,by rw [KN] at this;omega,pm⟩
  rw [Jz c];obtain ⟨l1,g,rfl,hM,rfl,pm⟩:=h2;have hlen:=pm.length_eq;rw [Jr] at hlen;have nd1:=pm.nodup_iff.mpr nd;refine J1 (w_count O hc (fun x hx=>bd x (pm.mem_iff.mp hx)) (Kf.mp nd1).2.1 (by omega) (by omega) fun S T pS sS hS=>?_);dsimp only;have pm2:(l1++(S++T)).Perm l0:=(Lm _ pS).trans pm;have hlen2:=pS.length_eq;rw [Jr] at hlen2;have bc:∀ {α β:Type} {m m':StateT SortSt Sem α} {f f':α->StateT SortSt Sem β},m=m'->f=f'->(m>>=f)=(m'>>=f'):=by rintro _ _ _ _ _ _ rfl rfl;rfl
  have use:∀ {m m':StateT SortSt Sem (ForInStep (Option Unit×Nat))} {Q:ForInStep (Option Unit×Nat)->SortSt->Prop} {st:SortSt},m=m'->wpS M Ar E s m' Q st->wpS M Ar E s m Q st:=by rintro _ _ _ _ rfl z;exact z
  by_cases c2:S.length < mr
  ·rw [JB c2];refine J1 (wpS_lift (KW ⟨rfl,?_⟩));refine J1 (Fi (R:=R) O hc (fun x hx=>bd x (pm2.mem_iff.mp hx)) (Kf.mp (pm2.nodup_iff.mpr nd)).2.1 rfl hS (by omega) (by rw [Jr];omega) sS fun S' T' pS' sS' hS'=>?_);rw [Jz (by decide),<-hS'];refine use (m':=sr3 l0.length l1.length S'.length) ?_ (KZ (CA O nd bd hc (S:=S') (T:=T') (size:=l0.length) ⟨l1,g,rfl,hM,rfl,(Lm _ pS').trans pm2⟩ sS' (by omega) (Q:=fun r st=>∃ ps' n R,1<=n/\r=.yield (none,l1.length+n)/\SoI F lt κ l0 (l1.length+n) ps' R st) fun ps' st hs=>⟨ps',_,T',by omega,rfl,hs⟩) ?_)
   ·unfold sr3;refine Lp fun st=>?_;cases (pendingOf st).back? with
    | none=>rfl
    | some r =>
     obtain ⟨s1,n1,p1⟩:=r;dsimp only;refine bc ?_ ?_
     ·congr 1;try (funext _ c;refine Lp fun st=>?_;split <;> rfl)
     ·funext c;cases c.1 <;> rfl
   ·rintro _ st ⟨ps',n,R,hn,rfl,hs⟩;exact ⟨rfl,by dsimp only;omega,ps',R,hs⟩
  ·rw [Jz c2];refine use (m':=sr3 l0.length l1.length S.length) ?_ (KZ (CA O nd bd hc (S:=S) (T:=T) (size:=l0.length) ⟨l1,g,rfl,hM,rfl,pm2⟩ sS hS (Q:=fun r st=>∃ ps' n R,1<=n/\r=.yield (none,l1.length+n)/\SoI F lt κ l0 (l1.length+n) ps' R st) fun ps' st hs=>⟨ps',_,T,hS,rfl,hs⟩) ?_)
   ·unfold sr3;refine Lp fun st=>?_;cases (pendingOf st).back? with
    | none=>rfl
    | some r =>
     obtain ⟨s1,n1,p1⟩:=r;dsimp only;refine bc ?_ ?_
     ·congr 1;try (funext _ c;refine Lp fun st=>?_;split <;> rfl)
     ·funext c;cases c.1 <;> rfl
   ·rintro _ st ⟨ps',n,R,hn,rfl,hs⟩;exact ⟨rfl,by dsimp only;omega,ps',R,hs⟩
 ·rintro ⟨r,lo⟩ st ⟨e,h1,ps,R,l1,g,rfl,hM,hk,pm⟩;have:=pm.length_eq;rw [Jr] at this;dsimp only at e h1 hk;have e0:R=[]:=Kd (by omega);subst e0;exact ⟨e,ps,l1,g,rfl,hM,by rw [KN] at this;omega,pm⟩
 ·rintro ⟨r,lo⟩ st ⟨e,ps,hs⟩;dsimp only at e ⊢;subst e;have hps:ps.length<=l0.length:=by obtain ⟨l1,g,rfl,hM,hk,pm⟩:=hs;rw [<- hk];exact hM.len
  refine J1 (KZ (KD (I:=fun i (c:Option Unit×Unit) st=>c.1=none/\∃ ps,ps.length<=l0.length - i/\SoI F lt κ l0 l0.length ps [] st) (Q:=fun (c:Option Unit×Unit) st=>c.1=none/\∃ ps,ps.length<=1/\SoI F lt κ l0 l0.length ps [] st) ?_ ?_ ⟨rfl,ps,hps,hs⟩) ?_)
  ·rintro i ⟨r,⟨⟩⟩ st _ hi ⟨e,ps,hp,hs⟩;refine J1 (L8 ?_);have ep:(pendingOf st).size=ps.length:=by obtain ⟨l1,g,rfl,hM,hk,pm⟩:=hs;exact JR
   by_cases c:(pendingOf st).size<=1
   ·rw [JB c];exact JY ⟨rfl,ps,by omega,hs⟩
   ·rw [Jz c];refine J1 (Ah O nd bd hc hs ?_ fun ps' st' hl h'=>?_)
    ·have:∀ c:Bool,(if c=true then (pendingOf st).size - 2 - 1 else (pendingOf st).size - 2)+1 < ps.length:=fun c=>by cases c <;> simp <;> omega
     exact this _
    ·rw [Jz (by decide)];exact JY ⟨rfl,ps',by omega,h'⟩
  ·rintro ⟨r,⟨⟩⟩ st ⟨e,ps,hp,hs⟩;exact ⟨e,ps,by omega,hs⟩
  ·rintro ⟨r,⟨⟩⟩ st ⟨e,ps,hp,hs⟩;dsimp only at e ⊢;subst e;obtain ⟨l1,g,rfl,hM,hk,pm⟩:=hs;rw [Kj] at pm ⊢;exact JY (h l1 g _ pm (hM.IC hp))
end
open PySem PySem.Spec PyProof.Rows PySem.W
theorem u6 {P:Program} {w:World} {A:Around} {E:Value->Shared->Prop} {s:Shared} {vs ks:List Value} {κ:SortKind} {lt:Nat->Nat->Bool} {Q:SortSt->Shared->Prop} (hl:ks.length=vs.length)
  (hc:∀ i j (C:Bool->Shared->Prop),i < vs.length->j < vs.length->C (lt i j) s->kas_ask P w A κ ks i j C s) (O:Ord lt vs.length)
  (h:∀ p st',p.size=vs.length->arrOf st'=p.map (kas_item (ks.toArray.zip vs.toArray))->failedOf st'=none->Pm vs.length p->Up lt p vs.length->Q st' s) :
  wpAny (model P w) A ((sortRuns').run (SortSt.mk' κ (ks.toArray.zip vs.toArray) #[] 7 none)) (fun r s'=>Q r.2 s') E s:=by
 have e:=kas_range (ks.toArray.zip vs.toArray);rw [show (ks.toArray.zip vs.toArray).size=vs.length by simp [hl]] at e;have est:SortSt.mk' κ (ks.toArray.zip vs.toArray) #[] 7 none=SortSt.mk' κ (arK (kas_item (ks.toArray.zip vs.toArray)) (List.range vs.length)) #[] 7 none:=by
  congr 1;rw [<- e];simp only [arK,e];rw [<- List.map_toArray,e]
 rw [est];have hcm:Cmp (model P w) A E s (kas_item (ks.toArray.zip vs.toArray)) lt vs.length κ:=by
  intro i j C st hk hi hj hC;rw [lt'_eq];refine J1 (L8 ?_);rw [hk,kat_item hl,kat_item hl];refine J1 (wpS_lift (wpAny_attempt (Ke (hc i j (fun b s'=>b=lt i j/\s'=s) hi hj ⟨rfl,rfl⟩) (fun b s' hb=>?_) fun _ _ z=>z.elim)));obtain ⟨rfl,rfl⟩:=hb;exact ⟨rfl,JY hC⟩
 have:=Cc (M:=model P w) (Ar:=A) (E:=E) (s:=s) (g:=7) (p0:=List.range vs.length) (Q:=fun _ st=>Q st s) O List.nodup_range (fun x hx=>List.mem_range.mp hx) hcm (Lg _) fun l g ps pl sl=>h l.toArray _ (by rw [JR,pl.length_eq,Kz]) (by simp [arK]) rfl (LX.mpr pl) fun i hi=>?_
 ·exact Ke this (fun r s' z=>by obtain ⟨rfl,z⟩:=z;exact z) fun _ _ z=>z
 ·have hll:l.length=vs.length:=by rw [pl.length_eq,Kz]
  have:=Kv.mp sl i (i+1) (by omega) (by omega) (Lr _);unfold at_;rw [LS,LS,Mh,Mh,Jq (by omega),Jq (by omega)];exact this
open PySem PySem.Spec PyProof.Rows PySem.W
section
variable {P:Program} {w:World} {A:Around} {E:Value->Shared->Prop} {s:Shared} {a kS:Addr} {vs ks:List Value} {f:Value} {e1:Nat} {R:PySem.Fin->Shared->Prop}
theorem Al {n:Nat} {J:List Value->Shared->Prop} {body:Value->PUnit->Sem (ForInStep PUnit)}
  (hb:∀ x ks (s:Shared),ks.length < n->vs[ks.length]?=some x->J ks s->wpAny (model P w) A (body x ⟨⟩) (fun r s'=>r=.yield ⟨⟩/\∃ k,J (ks++[k]) s') E s):∀ (r ks:List Value) (s:Shared),ks.length+r.length=n->vs.drop ks.length=r->J ks s ->
   wpAny (model P w) A (forIn r PUnit.unit body) (fun _ s'=>∃ ks,ks.length=n/\J ks s') E s
 | [],ks,s,hl,hr,h=>by
  rw [List.forIn_nil];exact Jw ⟨ks,by simpa using hl,h⟩
 | x :: r,ks,s,hl,hr,h=>by
  rw [J2] at hl;rw [List.forIn_cons];have hx:vs[ks.length]?=some x:=by
   have:(vs.drop ks.length)[0]?=some x:=by rw [hr];rfl
   rwa [List.getElem?_drop,Nat.add_zero] at this
  refine Jp (Ke (hb x ks s (by omega) hx h) (fun q s' hq=>?_) fun _ _ x=>x);obtain ⟨rfl,k,h2⟩:=hq;refine Al hb r (ks++[k]) s' (by rw [Jr,Ll];omega) ?_ h2;rw [Jr,Ll,<-List.drop_drop,hr];rfl
theorem Es {J:List Value->Shared->Prop} (h64:vs.length < 4096)
  (step:∀ x ks (s:Shared),vs[ks.length]?=some x->ks.length < 4096->J ks s->wpAny (model P w) A (call f [x]) (fun k s'=>(∃ e,s'.heap.get? kS=some (seqObj "list" (List.toArray ks) e))/\J (ks++[k]) { s' with heap:=s'.heap.update kS (Obj.mapSeq (·.push k)) }) (fun _ _=>False) s)
  (hJ:∀ ks s,J ks s->∃ e,s.heap.get? kS=some (seqObj "list" (List.toArray ks) e))
  (fin:∀ ks (s:Shared),ks.length=vs.length->J ks s->wpAny (model P w) A (ksk_end a false vs.toArray e1 (.ref kS) (List.toArray ks)) R E s) (h:J [] s) :
  wpAny (model P w) A (ksk_rest a f false vs.toArray e1 (.ref kS)) R E s:=by
 unfold ksk_rest;refine Jp (KW ?_);rw [List.forIn_toArray];refine Jp (Ke (Al (n:=vs.length) (vs:=vs) (J:=J) (fun x ks s' hl hx hj=>?_) vs [] s (by simp) (by simp) h) (fun _ s' hd=>?_) fun _ _ x=>x)
 ·refine Jp (wpAny_attempt (Ke (step x ks s' hx (by omega) hj) (fun k s'' hk=>?_) fun _ _ hF=>hF.elim));obtain ⟨⟨e,g⟩,hj'⟩:=hk;try dsimp only
  refine Jp (listUpdate_at g rfl ?_ (by rw [JR,Ku];omega) (Ka (Nat.le_of_eq (Array.size_push ..)) (by rw [JR,Ku];omega)));exact Jw ⟨rfl,k,hj'⟩
 ·obtain ⟨ks,hl,hj⟩:=hd;obtain ⟨e,g⟩:=hJ ks s' hj;try dsimp only
  refine Jp (listItems_at g rfl ?_);exact fin ks s' hl hj
theorem Ag {st:SortSt} {e:Nat} {out:List Value} (hout:(arrOf st).map (·.2)=List.toArray out) (hz:out.length < 4096) (hkz:ks.length < 4096) (hf:failedOf st=none) (hne:a≠kS)
  (gk:s.heap.get? kS=some (seqObj "list" (List.toArray ks) e)) (ga:s.heap.get? a=some (seqObj "list" #[] e1))
  (h:R (.done (.ret .none)) { s with heap:=(s.heap.update kS (Obj.mapSeq fun _=>(#[]:Array Value))).update a (Obj.mapSeq fun _=>List.toArray out) }):wpAny (model P w) A (ksk_tail a false e1 (.ref kS) st) R E s:=by
 have ga':(s.heap.update kS (Obj.mapSeq fun _=>(#[]:Array Value))).get? a=some (seqObj "list" #[] e1):=(K0 _ _ (Ne.symm hne)).trans ga;unfold ksk_tail;try dsimp only
 rw [hout];refine Jp (listUpdate_at gk rfl ?_ (by rw [JR,Ku];omega) (KA _));refine Jp (wpAny_letGo ?_);refine Jp (seqEpoch_at ga' rfl ?_);refine Jp (listUpdate_at ga' rfl ?_ (KA _) (by show (List.toArray out).size<=_;rw [JR,Ku];omega));rw [hf];simp only [bne_self_eq_false,K5,Lh];exact Jw h
theorem IU {e:Nat} {κ:SortKind} {lt:Nat->Nat->Bool} (hl:ks.length=vs.length) (h64:vs.length < 4096) (hne:a≠kS)
  (gk:s.heap.get? kS=some (seqObj "list" (List.toArray ks) e)) (ga:s.heap.get? a=some (seqObj "list" #[] e1))
  (hk:2<=vs.length->∀ Q:SortKind->Shared->Prop,Q κ s->wpAny (model P w) A (keyKind' (List.toArray ks)) Q (fun _ _=>False) s)
  (hc:∀ i j (C:Bool->Shared->Prop),i < vs.length->j < vs.length->C (lt i j) s->kas_ask P w A κ ks i j C s) (O:Ord lt vs.length)
  (h:∀ p,Pm vs.length p->Up lt p vs.length->R (.done (.ret .none)) { s with heap:=(s.heap.update kS (Obj.mapSeq fun _=>(#[]:Array Value))).update a (Obj.mapSeq fun _=>List.toArray (p.toList.map fun i=>vs.getD i Value.none)) }) :
  wpAny (model P w) A (ksk_end a false vs.toArray e1 (.ref kS) (List.toArray ks)) R E s:=by
 unfold ksk_end;dsimp only;rw [Jz JL,Jz JL];by_cases h2:vs.length < 2
 ·have hs:vs.toArray.size < 2:=by rw [JR];exact h2
  rw [JB hs,JB hs];refine Jp (Jw ?_);show wpAny _ _ (pure (PUnit.unit,SortSt.mk' general' (ks.toArray.zip vs.toArray) #[] 7 none)>>=_) _ _ _;refine Jp (Jw ?_);dsimp only;have er:(List.toArray (List.range vs.length)).map (kas_item (ks.toArray.zip vs.toArray))=ks.toArray.zip vs.toArray:=by
   have e:=kas_range (ks.toArray.zip vs.toArray)
   rwa [show (ks.toArray.zip vs.toArray).size=vs.length by simp [hl]] at e
  refine Ag (st:=SortSt.mk' general' (ks.toArray.zip vs.toArray) #[] 7 none) (kat_snds hl (p:=(List.range vs.length).toArray) er.symm) (by simpa using h64) (by omega) rfl hne gk ga (h _ (Array.Perm.refl _) fun i hi=>by omega)
 ·have hs:¬vs.toArray.size < 2:=by rw [JR];exact h2
  rw [Jz hs,Jz hs];refine Jp (Ke (hk (by omega) (fun κ' s'=>κ'=κ/\s'=s) ⟨rfl,rfl⟩) (fun κ' s0 hk'=>?_) fun _ _ x=>x.elim);obtain ⟨rfl,rfl⟩:=hk'
  refine Jp (Ke (u6 (Q:=fun st' s'=>∃ p:Array Nat,p.size=vs.length/\arrOf st'=p.map (kas_item (ks.toArray.zip vs.toArray))/\failedOf st'=none/\(Pm vs.length p/\Up lt p vs.length)/\s'=s0)
   hl hc O fun p st' a1 a2 a3 a4 a5=>⟨p,a1,a2,a3,⟨a4,a5⟩,rfl⟩) ?_ fun _ _ x=>x)
  rintro ⟨⟨⟩,st'⟩ s' ⟨p,hp,har,hf,⟨h1,h2'⟩,rfl⟩;dsimp only;exact Ag (kat_snds hl har) (by rw [Jt,KG,hp];exact h64) (by omega) hf hne gk ga (h p h1 h2')
theorem BM {d g:Addr} {es:Array DictEntry} {ep:Nat} {Q:Value->Shared->Prop} (hh:A.handled=none) (lo:(d==sysModules)=false) (ok:OkD d es ep s.heap) (hz:es.size < 4096)
  (h:∀ vs D kS e1 h' tk,vs=es.toList.map (·.key)->s.heap.objs.size<=D->D < kS->(∀ b o,s.heap.get? b=some o->h'.get? b=some o)->h'.get? D=some (seqObj "list" #[] e1)->h'.get? kS=some (seqObj "list" #[] 0) ->
   ∀ R:PySem.Fin->Shared->Prop,(∀ s',Q (.ref D) s'->R (.done (.ret .none)) s')->wpAny (model P w) A.in1.in1 (ksk_rest D (.ref g) false vs.toArray e1 (.ref kS)) R (fun _ _=>False) { s with heap:=h',toks:=tk }) :
  wpAny (model P w) A (call (.builtin "sorted") [.ref d] [(Str.ofString "key", .ref g)]) Q E s:=by
 refine call_function_entry_kw kind_sorted plain_sorted entry_sorted (ksk_s1 _ _) ?_;unfold Builtin.«sorted»
 refine Jp (m:=checkCount "sorted" 1 1 _) (Jw ?_);refine Jp (FY hh lo ok (by rw [Ku];omega) fun vs h1 tk ev hsz hk=>?_);have hvl:vs.length < 4096:=by rw [ev,Jt,KG];exact hz
 refine Jp (wpAny_newList ?_ (by rw [Ku];omega));have hoL:(h1.push (seqObj "list" vs.toArray 0)).get? h1.objs.size=some (seqObj "list" vs.toArray 0):=Kc _ rfl;refine Jp (KJ (wpAny_call_entry_kw slot_list_sort ⟨_,hoL,rfl⟩ entry_list_sort ?body (ksk_l1 _ _)))
 case body =>
  show wpAny (model P w) A.in1.in1 (Builtin.«list.sort» ⟨[.ref h1.objs.size],[(Str.ofString "key", .ref g)]⟩) _ _ _
  rw [ksk_t1];unfold ksk_tree;obtain ⟨e1,ho1⟩:∃ e1,((h1.push (seqObj "list" vs.toArray 0)).update h1.objs.size (Obj.mapSeq fun _=>(#[]:Array Value))).get? h1.objs.size=some (seqObj "list" #[] e1):=⟨_,get?_update_seq hoL fun _=>#[]⟩;refine Jp (listItems_at hoL rfl ?_);refine Jp (listUpdate_at hoL rfl ?_ (by rw [JR,Ku];omega) (KA _));refine Jp (seqEpoch_at ho1 rfl ?_);refine Jp (wpAny_newTuple ?_ (by show vs.length<=_;rw [Ku];omega));refine Jp (wpAny_newList ?_ (KA _));refine KJ ?_;have hks:(((h1.push (seqObj "list" vs.toArray 0)).update h1.objs.size (Obj.mapSeq fun _=>(#[]:Array Value))).push (seqObj "tuple" vs.toArray 0)).objs.size=h1.objs.size+2:=by
   rw [size_push',Heap.size_update,size_push']
  refine Ke (h vs h1.objs.size (((h1.push (seqObj "list" vs.toArray 0)).update h1.objs.size (Obj.mapSeq fun _=>(#[]:Array Value))).push (seqObj "tuple" vs.toArray 0)).objs.size e1
   ((((h1.push (seqObj "list" vs.toArray 0)).update h1.objs.size (Obj.mapSeq fun _=>(#[]:Array Value))).push (seqObj "tuple" vs.toArray 0)).push (seqObj "list" #[] 0)) tk ev (Ma hsz) (by rw [hks];exact Nat.lt_succ_of_lt (Lr _)) (fun b o e=>?_)
   (JN _ (JN _ ho1)) (Kc _ rfl) _ fun s' hq=>?_) (fun _ _ z=>z) fun _ _ z=>z.elim
  ·have hb:b≠h1.objs.size:=Kk (JX (hk b o e));exact JN _ (JN _ ((K0 _ _ (Ne.symm hb)).trans (JN _ (hk b o e))))
  ·exact ⟨_,rfl,Jw ⟨_,rfl,hq⟩⟩
end
open PySem PySem.Spec PyProof.Rows PySem.W
abbrev Ky:=Int×Int×Str
noncomputable def ltK (x y:Ky):Bool:=if x.1=y.1 then (if x.2.1=y.2.1 then decide (x.2.2.cps.toList < y.2.2.cps.toList) else decide (x.2.1 < y.2.1)) else decide (x.1 < y.1)
theorem rW (x:Ky):ltK x x=false:=by
 unfold ltK;rw [JB rfl,JB rfl];exact J3 (List.lt_irrefl _)
theorem Bv {x y z:Ky} (h1:ltK x y=true) (h2:ltK y z=true):ltK x z=true:=by
 unfold ltK at *;split at h1 <;> split at h2
 ·rename_i a b;rw [JB (a.trans b)];split at h1 <;> split at h2
  ·rename_i c d;rw [JB (c.trans d)];exact J6 (List.lt_trans (Kq h1) (Kq h2))
  ·rename_i c d;rw [Jz (by rw [c];exact d),c];exact h2
  ·rename_i c d;rw [Jz (by rw [<- d];exact c),<-d];exact h1
  ·have:=Kq h1;have:=Kq h2;rw [Jz (by omega)];exact J6 (by omega)
 ·rename_i a b;rw [Jz (by rw [a];exact b),a];exact h2
 ·rename_i a b;rw [Jz (by rw [<- b];exact a),<-b];exact h1
 ·have:=Kq h1;have:=Kq h2;rw [Jz (by omega)];exact J6 (by omega)
theorem ye {x y:Ky} (hn:x≠y) (h:ltK x y=false):ltK y x=true:=by
 obtain ⟨x1,x2,x3⟩:=x;obtain ⟨y1,y2,y3⟩:=y;unfold ltK at *;dsimp only at *;split at h
 ·rename_i a;rw [JB a.symm];split at h
  ·rename_i b;rw [JB b.symm];refine J6 ?_;have h:=LC h
   have:y3.cps.toList≠x3.cps.toList:=fun z=>hn (by
    have:y3=x3:=by cases x3;cases y3;simpa using Array.toList_inj.mp z
    rw [a,b,this])
   exact Lu fun n=>this (List.le_antisymm (List.not_lt.mp h) (List.not_lt.mp n))
  ·rename_i b;have h:=LC h;rw [Jz (fun z=>b z.symm)];exact J6 (by omega)
 ·rename_i a;have h:=LC h;rw [Jz (fun z=>a z.symm)];exact J6 (by omega)
open PySem PySem.Spec PyProof.Rows PySem.W
section
variable {X:Cx} {pins:List (Addr×Obj)} {σ:List (Option V)} {H:Hp} {s:Shared} {h':Heap}
theorem Inv.sH {a:Addr} {o:Obj} (I:Inv X ((a,o) :: pins) σ H s):∀ x c,X.env.cells.lookup x=some c->c≠a:=fun x c e z=>by
 obtain ⟨g,_,_,_,n⟩:=I.pin (a,o) (Jx _ Jy);obtain ⟨v,oc,h1,h2⟩:=I.cell x c e;subst z;rw [g] at h1;cases h1;first | exact n _ h2 | exact n _ h2.1 | exact n _ h2.2
theorem Inv.vf {p:Addr×Obj} (I:Inv X (p :: pins) σ H s):Inv X pins σ H s:=I.cA fun q hq=>I.pin q (Jx _ (JJ _ hq))
theorem Inv.Gn {a:Addr} {o o':Obj} (I:Inv X ((a,o) :: pins) σ H s) (ha:X.s₀.heap.objs.size<=a) (hp:∀ p∈X.pn++pins,p.1≠a) (hs:∀ b u,b≠a->s.heap.get? b=some u->h'.get? b=some u) (g':h'.get? a=some o') (hc:∀ v,o'.data≠.cell v) :
  Inv X ((a,o') :: pins) σ H { s with heap:=h' }:=by
 obtain ⟨g,n,L,f,_⟩:=I.pin (a,o) (Jx _ Jy);have I2:Inv X pins σ H { s with heap:=h' }:=I.vf.turned (t':=s.toks) hs n L (.inr ha) I.sH hp;refine I2.cA fun p hp=>?_;rcases JV.mp hp with rfl | hp
 ·exact ⟨g',n,L,f,hc⟩
 ·exact I2.pin p (Jx _ hp)
theorem Inv.ID {D k:Addr} {o:HO} (I:Inv X pins σ H s) (hD:X.s₀.heap.objs.size<=D) (hk:X.s₀.heap.objs.size<=k) (nD:H D=none) (nk:H k=none) (LD:D≠X.env.locals) (Lk:k≠X.env.locals)
  (cD:∀ x c,X.env.cells.lookup x=some c->c≠D) (ck:∀ x c,X.env.cells.lookup x=some c->c≠k) (pD:∀ p∈X.pn++pins,p.1≠D) (pk:∀ p∈X.pn++pins,p.1≠k)
  (hs:∀ b u,b≠D->b≠k->s.heap.get? b=some u->h'.get? b=some u) (new:aQ X.prog X.w (upd H D o) h' D o):Inv X pins σ (upd H D o) { s with heap:=h' }:=by
 have nd:∀ b u,H b=some u->b≠D:=fun b u e z=>by rw [z,nD] at e;cases e
 have nk':∀ b u,H b=some u->b≠k:=fun b u e z=>by rw [z,nk] at e;cases e
 have hc:∀ b,b ∉ [D,k]->b≠D/\b≠k:=fun b hb=>⟨fun z=>hb (by simp [z]),fun z=>hb (by simp [z])⟩;refine I.step (t':=s.toks) (g':=s.gens) (d':=s.drawn) (ch:=[D,k]) (fun b hb=>?_) (fun b o _ _ hb e _=>hs b o (hc b hb).1 (hc b hb).2 e) (fun b o _ _ hb e _=>⟨o.slots,hs b o (hc b hb).1 (hc b hb).2 e⟩) (fun b o hb _ n=>by rw [ai (hc b hb).1];exact n)
  (fun b o hb e=>⟨o,hs b o (hc b hb).1 (hc b hb).2 e⟩) (fun b xs e=>by rw [ai (nd b _ e)];exact e) (fun b o u e=>by rw [ai (nd b _ e)];exact e) (fun b ps e=>⟨#[],by rw [ai (nd b _ e),e];simp⟩) (fun m hm=>?_) (fun b u e=>?_) I.bare
 ·rcases JV.mp hb with rfl | hb
  ·exact ⟨.inr hD,LD,cD,pD⟩
  ·rw [JD.mp hb];exact ⟨.inr hk,Lk,ck,pk⟩
 ·obtain ⟨o,es,ep,ho,r⟩:=hm;exact ⟨o,es,ep,hs _ o (Ne.symm LD) (Ne.symm Lk) ho,r⟩
 ·by_cases z:b=D
  ·subst z;rw [af] at e;cases e;exact new
  ·rw [ai z] at e;refine (I.hok b u e).j9 (fun c v hc q=>?_) (fun c q=>by rw [ai (nd c _ q)];exact q) fun c xs q=>by rw [ai (nd c _ q)];exact q
   rcases hc with rfl | hc
   ·exact hs _ _ z (nk' _ _ e) q
   ·exact hs _ _ (nd c _ hc) (nk' c _ hc) q
end
open PySem PySem.Spec PyProof.Rows PySem.W
noncomputable def valAt (xs:List (PyData×V×V)) (i:Nat):V:=((xs[i]?).map (·.2.1)).getD .non
abbrev Cx.in2 (X:Cx):Cx:={ X with A:=X.A.in1.in1,xe:=fun _ _=>False }
section
variable {X:Cx} {pins:List (Addr×Obj)} {σ:List (Option V)} {H:Hp} {s:Shared}
theorem Inv.in2 (I:Inv X pins σ H s):Inv X.in2 pins σ H s :=
 ⟨⟨I.ok.mod,I.ok.kind,I.ok.glob,I.ok.blt,I.ok.above,I.ok.inj,I.ok.has,I.ok.cab,I.ok.hd,I.ok.frames,I.ok.stk,I.ok.exf,I.ok.bs,I.ok.bsz,I.ok.wQ,I.ok.zh,I.ok.l8,I.ok.frf⟩,I.os,I.bare,I.base,I.loc,I.cell,I.free,I.dU,I.pin,I.hok,I.len⟩
theorem Inv.IH (I:Inv X.in2 pins σ H s):Inv X pins σ H s :=
 ⟨⟨I.ok.mod,I.ok.kind,I.ok.glob,I.ok.blt,I.ok.above,I.ok.inj,I.ok.has,I.ok.cab,I.ok.hd,I.ok.frames,I.ok.stk,I.ok.exf,I.ok.bs,I.ok.bsz,I.ok.wQ,I.ok.zh,I.ok.l8,I.ok.frf⟩,I.os,I.bare,I.base,I.loc,I.cell,I.free,I.dU,I.pin,I.hok,I.len⟩
end
open PySem PySem.Spec PyProof.Rows
theorem DmP.get {K:Fg} {F:Addr->Prop} {H:Hp}:∀ {kvs:List (PyData×PyData)} {xs:List (PyData×V×V)} {i:Nat} {x:PyData×V×V},DmP K F H kvs xs->xs[i]?=some x->(kvs.map (·.1))[i]?=some x.1/\Dm K F H x.1 x.2.1
 | [],xs,i,x,h,e=>by rw [show xs=[] from h] at e;simp at e
 | (k,d) :: kvs,xs,i,x,h,e=>by
  obtain ⟨j,v,r,rfl,h1,h2,h3,h4⟩:=h;cases i with
  | zero=>simp at e;subst e;exact ⟨rfl,h2⟩
  | succ i=>have:=DmP.get h4 (show r[i]?=some x by simpa using e);exact ⟨by simpa using this.1,this.2⟩
theorem DmP.ko {K:Fg} {F:Addr->Prop} {H:Hp}:∀ {kvs:List (PyData×PyData)} {xs:List (PyData×V×V)},DmP K F H kvs xs->xs.length=kvs.length
 | [],xs,h=>by rw [show xs=[] from h];rfl
 | (k,d) :: kvs,xs,h=>by
  obtain ⟨j,v,r,rfl,h1,h2,h3,h4⟩:=h;rw [J2,DmP.ko h4,J2]
open PySem PySem.Spec PyProof.Rows
noncomputable def Jo:PyData->List PyData->Option PR
 | .str z,[.str y]=>match Builtin.Str.occurrences z y 0 z.length 1 with | i :: _=>some (.dat (.int i)) | []=>none
 | _,_=>none
inductive Lxy:List Value->List Value->Bool->Prop
 | nil:Lxy [] [] false
 | ii (a b:Int) (t u:Tok) {r q:List Value} {z:Bool} (h:Lxy r q z):Lxy (.int a t :: r) (.int b u :: q) (if a=b then z else decide (a < b))
 | ss (a b:Str) (t u:Tok) {r q:List Value} {z:Bool} (h:Lxy r q z):Lxy (.str a t :: r) (.str b u :: q) (if a=b then z else decide (a.cps.toList < b.cps.toList))
theorem Lxy.len:∀ {xs ys:List Value} {z:Bool},Lxy xs ys z->xs.length=ys.length
 | _,_,_,.nil=>rfl
 | _,_,_,.ii _ _ _ _ h=>by rw [J2,h.len,J2]
 | _,_,_,.ss _ _ _ _ h=>by rw [J2,h.len,J2]
theorem ve {x y:Value} {xs ys:List Value} {z:Bool} (h:Lxy (x :: xs) (y :: ys) z) (A:Around) (s:Shared):∃ e z',SeqAt.EqAt A s x y e/\Lxy xs ys z'/\(e=true->z=z')/\(e=false->∀ (prog:Program) (w:World) (E:Value->Shared->Prop) (Q:Value->Shared->Prop),Q (.bool z) s->wpAny (model prog w) A (richCompare .Lt x y) Q E s):=by
 cases h with
 | ii a b t u h =>
  refine ⟨(a==b),_,SeqAt.EqAt.int_int a t b u,h,fun e=>by rw [JB (Kg.mp e)],fun e prog w E Q q=>?_⟩;rw [Jz (fun z=>by rw [z,Ks] at e;cases e)] at q;exact (PyProof.Rows.lt_int q:wpAny (model prog w) A (compareOp .Lt (.int a t) (.int b u)) Q E s)
 | ss a b t u h =>
  refine ⟨(a==b),_,SeqAt.EqAt.str_str a t b u,h,fun e=>by rw [JB (Kg.mp e)],fun e prog w E Q q=>?_⟩;rw [Jz (fun z=>by rw [z,Ks] at e;cases e)] at q;exact (PyProof.Rows.lt_str q:wpAny (model prog w) A (compareOp .Lt (.str a t) (.str b u)) Q E s)
section
open PySem.SeqAt
open PySem.MeetsSeq PySem.MeetsSeq2 PySem.MeetsSeq3
theorem pY (l b:Addr) (items items2:Array Value) (n n2:Nat) (dd dd2:Option Addr) (sl sl2:Array (Option Value)) (z:Bool) (hi:Lxy items.toList items2.toList z) :
  Meets (Builtin.«tuple.__lt__» ⟨[.ref l,.ref b],[]⟩)
   (fun _ R s=>s.heap.get? l=some { cls:=.type "tuple", dict:=dd,data:=.seq items n,slots:=sl }/\s.heap.get? b=some { cls:=.type "tuple", dict:=dd2,data:=.seq items2 n2,slots:=sl2 } /\
    R (.ok (.ret (.bool z))) s) :=
 .of_wp fun prog w A R s h=>by
  obtain ⟨hp,g,d,tk,os⟩:=s;obtain ⟨hl,hb,h⟩:=h;have f2:=AutoSeq1.sub_tuple_tuple;have zl:items.size=items2.size:=by simpa using hi.len
  wp_walk using LM hl,LM hb,LH _ (fun rest b s'=>b.1=none/\s'=⟨hp,g,d,tk,os⟩/\∃ (vs ws:List Value) (z':Bool),rest=vs.zip ws/\Lxy vs ws z'/\R (.ok (.ret (.bool z'))) ⟨hp,g,d,tk,os⟩) _
  case turn =>
   rintro ⟨y,x⟩ rest b s' ⟨hb',rfl,vs,ws,z',hz,hv,hR⟩;cases vs with
   | nil=>rw [List.zip_nil_left] at hz;cases hz
   | cons v vs =>
    cases ws with
    | nil=>rw [List.zip_nil_right] at hz;cases hz
    | cons w1 ws =>
     rw [List.zip_cons_cons] at hz;injection hz with hyx hrest;injection hyx with hy hx;subst hy hx;obtain ⟨e,z2,he,h2,h3,h4⟩:=ve hv A.in1 ⟨hp,g,d,tk,os⟩;refine Jp (he prog w _ _ ?_);cases e with
     | true =>
      rw [h3 rfl] at hR
      wp_walk
      exact ⟨rfl,rfl,_,_,_,hrest,h2,hR⟩
     | false =>
      have hri:=h4 rfl prog w
      wp_walk using hri
      exact ⟨_,rfl,by simpa using hR⟩
  case fin =>
   rintro ⟨b1,b2⟩ s' ⟨hb',rfl,vs,ws,z',hz,hv,hR⟩;simp only at hb';subst hb';have hv:z'=decide (items.size < items2.size):=by
    cases hv with
    | nil=>exact (J3 (by omega)).symm
    | ii a b t u h=>rw [List.zip_cons_cons] at hz;cases hz
    | ss a b t u h=>rw [List.zip_cons_cons] at hz;cases hz
   rw [hv] at hR
   wp_walk
   exact ⟨_,rfl,by simpa [Builtin.Tuple.tupleCompareSizes] using hR⟩
  case h =>
   exact ⟨rfl,rfl,items.toList,items2.toList,z,rfl,hi,h⟩
end
theorem qE {prog:Program} {w:World} {A:Around} {E:Value->Shared->Prop} {s:Shared} {l b:Addr} {items items2:Array Value} {z:Bool} {Q:Value->Shared->Prop} (hl:IsTup s.heap l items) (hb:IsTup s.heap b items2) (hi:Lxy items.toList items2.toList z)
  (hu:A.units < cLine) (h:Q (.bool z) s):wpAny (model prog w) A (compareOp .Lt (.ref l) (.ref b)) Q E s:=by
 obtain ⟨⟨cls,dd,data,sl⟩,ho,hc,n,hd⟩:=id hl;obtain ⟨⟨cls2,dd2,data2,sl2⟩,ho2,hc2,n2,hd2⟩:=id hb;simp only at hc hd hc2 hd2;subst hc hd hc2 hd2;exact richCompare_meets_room (op:=.Lt) ⟨_,ho,rfl⟩ ⟨_,ho2,rfl⟩ PySem.F.slot_tuple_lt PySem.F.entry_tuple_lt (PySem.F.args_tuple_lt_2 _ _) (pY l b items items2 n n2 dd dd2 sl sl2 z hi)
  ⟨ho,ho2,show Value.bool z≠Value.notImplemented/\Q (.bool z) s from ⟨(fun x=>nomatch x),h⟩⟩ hu
inductive LxV:List V->List V->Bool->Prop
 | nil:LxV [] [] false
 | ii (a b:Int) {r q:List V} {z:Bool} (h:LxV r q z):LxV (.int a :: r) (.int b :: q) (if a=b then z else decide (a < b))
 | ss (a b:Str) {r q:List V} {z:Bool} (h:LxV r q z):LxV (.str a :: r) (.str b :: q) (if a=b then z else decide (a.cps.toList < b.cps.toList))
theorem LxV.vals:∀ {xs ys:List V} {z:Bool} {us vs:List Value},LxV xs ys z->Vals xs us->Vals ys vs->Lxy us vs z
 | _,_,_,_,_,.nil,h1,h2=>by cases h1;cases h2;exact .nil
 | _,_,_,_,_,.ii a b h,h1,h2=>by
  cases h1 with
  | cons x r =>
   cases h2 with
   | cons y q =>
    obtain ⟨t,rfl⟩:=x;obtain ⟨u,rfl⟩:=y;exact .ii a b t u (h.vals r q)
 | _,_,_,_,_,.ss a b h,h1,h2=>by
  cases h1 with
  | cons x r =>
   cases h2 with
   | cons y q =>
    obtain ⟨t,rfl⟩:=x;obtain ⟨u,rfl⟩:=y;exact .ss a b t u (h.vals r q)
def Ft (K:Fg):R2:=fun x y H Q=>∃ a b xs ys z,x=.ref a/\y=.ref b/\SqT K H a xs/\SqT K H b ys/\LxV xs ys z/\Q (.bl z) H
theorem AE {X:Cx} (hu:X.A.units < cLine):OpR X (compareOp .Lt) (Ft X.K):=by
 intro pins s σ H x y v u Q I rx ry h;obtain ⟨a,b,xs,ys,z,rfl,rfl,ha,hb,hz,q⟩:=h;cases (show v=Value.ref a from rx);cases (show u=Value.ref b from ry);obtain ⟨its,r,p,_⟩:=I.tuple ha;obtain ⟨its2,r2,p2,_⟩:=I.tuple hb;exact qE p p2 (by simpa using hz.vals r r2) hu ⟨.bl z,H,I,rfl,q⟩
noncomputable def zH:List PyData->List PyData->Option Bool
 | [],[]=>some false
 | .int a :: r,.int b :: q=>(zH r q).map fun z=>if a=b then z else decide (a < b)
 | .str a :: r,.str b :: q=>(zH r q).map fun z=>if a=b then z else decide (a.cps.toList < b.cps.toList)
 | _,_=>none
theorem Bp {K:Fg} {F:Addr->Prop} {H:Hp}:∀ {ds es:List PyData} {xs ys:List V} {z:Bool},zH ds es=some z->DmL K F H ds xs->DmL K F H es ys->LxV xs ys z
 | ds,es,xs,ys,z,h,h1,h2=>by
  induction ds generalizing es xs ys z with
  | nil =>
   cases es with
   | nil=>cases h;rw [show xs=[] from h1,show ys=[] from h2];exact .nil
   | cons e es=>simp [zH] at h
  | cons d ds ih =>
   unfold zH at h;split at h
   ·rename_i h0;cases h0
   ·rename_i a r b q e1;obtain ⟨z',hz,rfl⟩:=J7.mp h;cases e1;obtain ⟨v,rr,rfl,hv,h1⟩:=h1;obtain ⟨w,qq,rfl,hw,h2⟩:=h2;cases (show v=.int a from hv);cases (show w=.int b from hw);exact .ii a b (ih _ _ _ _ hz h1 h2)
   ·rename_i a r b q e1;obtain ⟨z',hz,rfl⟩:=J7.mp h;cases e1;obtain ⟨v,rr,rfl,hv,h1⟩:=h1;obtain ⟨w,qq,rfl,hw,h2⟩:=h2;cases (show v=.str a from hv.1);cases (show w=.str b from hw.1);exact .ss a b (ih _ _ _ _ hz h1 h2)
   ·cases h
noncomputable def Gq:PyData->PyData->Option PR
 | .tuple ds,.tuple es=>(zH ds es).map fun z=>.dat (.bool z)
 | _,_=>none
noncomputable def Hz:Prm:=Prm.two Ft Gq fun K F H x y u v pr Q hf hx hy hd q=>by
 unfold Gq at hf;split at hf
 ·obtain ⟨z,hz,rfl⟩:=J7.mp hf;obtain ⟨a,xs,rfl,sa,_,da⟩:=hx;obtain ⟨b,ys,rfl,sb,_,db⟩:=hy;exact ⟨a,b,xs,ys,z,rfl,rfl,sa,sb,Bp hz da db,q _ H (ar.rf H) rfl⟩
 ·cases hf
theorem xH {X:Cx} (hu:X.A.units < cLine):OpR X (compareOp .Lt) (fun x y=>Hz.r X.K [x,y]):=AE hu
open PySem PySem.Spec PyProof.Rows
def Ja (avs:List AV) (e:En) (QI:List PyData->Option Nat->En->Prop):Prop:=∃ x y xs ys,avs=[x,y]/\roL e x=some xs/\roL e y=some ys/\QI ((xs.zip ys).map fun p=>.tuple [p.1,p.2]) none e
theorem IV {gd:List PyData} {as:XA} {env:En} {QI:List PyData->Option Nat->En->Prop} (h:WA gd as env fun avs e=>Ja avs e QI):WI gd (.zip as) env QI:=by
 obtain ⟨avs,e',h1,x,y,xs,ys,rfl,h3,h4,h2⟩:=h;exact ⟨_,_,_,by simp only [dI,h1,h3,h4],h2⟩
open PySem PySem.Spec PyProof.Rows PySem.W
structure KS where
 κ:Type
 dft:κ
 dec:DecidableEq κ
 lt:κ->κ->Bool
 irr:∀ x,lt x x=false
 tr:∀ {x y z},lt x y=true->lt y z=true->lt x z=true
 tot:∀ {x y},x≠y->lt x y=false->lt y x=true
 T:Fg->Hp->V->κ->Prop
 same:∀ {K H H' u k},T K H u k->ar H H'->T K H' u k
 Hh:Heap->Value->κ->Prop
 key:∀ {X:Cx} {pins:List (Addr×Obj)} {σ:List (Option V)} {H:Hp} {s:Shared} {v:V} {u:Value} {k:κ},Inv X pins σ H s->RelV v u->T X.K H v k->Hh s.heap u k
 ask:∀ {P:Program} {w:World} {A:Around} {E:Value->Shared->Prop} {s:Shared} {u v:Value} {a b:κ} {C:Bool->Shared->Prop},A.units+64 < cLine->Hh s.heap u a->Hh s.heap v b->C (lt a b) s->wpAny (model P w) A (keyLt' (tuples' true) u v) C E s
 kd:∀ {P:Program} {w:World} {A:Around} {E:Value->Shared->Prop} {s:Shared} {us:List Value} {Q:SortKind->Shared->Prop},(∀ u∈us,∃ k,Hh s.heap u k)->0 < us.length->Q (tuples' true) s->wpAny (model P w) A (keyKind' us.toArray) Q E s
 of:PyData->Option κ
 ofT:∀ {K:Fg} {F:Addr->Prop} {H:Hp} {d:PyData} {u:V} {k:κ},of d=some k->Dm K F H d u->T K H u k
noncomputable def Co (S:KS) (ks:List S.κ) (i j:Nat):Bool:=S.lt (ks.getD i S.dft) (ks.getD j S.dft)
theorem Hs (S:KS) {ks:List S.κ} (h:ks.Nodup):Ord (Co S ks) ks.length where
 irr:=fun i=>S.irr _
 tr:=fun i j k=>S.tr
 tot:=fun i j hi hj hn e=>S.tot (fun z=>by
  rw [Ki,Ki,Jq hi,Jq hj] at z
  exact hn ((List.getElem?_inj hi h).mp (by rw [Jq hi,Jq hj];exact congrArg some z))) e
def tm (S:KS) (K:Fg) (sp:Sp):List V->Hp->VK->Prop:=fun us H Q=>∃ (d:Addr) (ep:Nat) (xs:List (PyData×V×V)) (ks:List S.κ),us=[.ref d]/\H d=some (.dD ep xs)/\xs.length < 4096/\ks.length=xs.length/\ks.Nodup /\
 (∀ (i:Nat) (x:PyData×V×V) (k:S.κ) (H':Hp),xs[i]?=some x->ks[i]?=some k->ar H H'->sp [x.2.1] H' (fun u H''=>ar H' H''/\S.T K H'' u k) E0) /\
 ∀ (H':Hp) (D:Addr) (p:Array Nat),ar H H'->H' D=none->Pm xs.length p->Up (Co S ks) p xs.length->Q (.ref D) (upd H' D (.lst (p.toList.map (valAt xs))))
section
variable {X:Cx} {pins:List (Addr×Obj)} {σ:List (Option V)} {H:Hp} {s:Shared}
theorem oF {S:KS} {k:Nat} {g:Addr} {fd:FuncData} {ps:List Str} {sp:Sp} {us:List V} {ws:List Value} {Q:VK} (F:br X.prog X.w X.K X.mg X.base CX0 k g fd ps sp) (hr:cq (k+2) X.A) (hb:Binds X.K fd ps [])
  (I:Inv X pins σ H s) (rw_:Vals us ws) (h:tm S X.K sp us H Q):wpAny (model X.prog X.w) X.A (call (.builtin "sorted") ws [(Str.ofString "key", .ref g)]) (EP X pins σ Q) X.xe s:=by
 obtain ⟨d,ep,xs,ks,rfl,ed,h64,kl,kn,hsp,q⟩:=h;cases rw_ with
 | cons r0 r1 =>
 cases r1;have r0:_=Value.ref d:=r0;subst r0;obtain ⟨z,hd,nd,o,es,g1,g2,g3,g4⟩:=(show aQ X.prog X.w H s.heap d (.dD ep xs) from I.hok _ _ ed);have hsz:es.size=xs.length:=by rw [Lx g4];simp
 refine BM hr.hd hd ⟨o,g1,g2,g3⟩ (by rw [hsz];exact h64) fun vs D kS e1 h' tk ev hD hDk keep gD gk R hR=>?_;have vl:vs.length=xs.length:=by rw [ev,Jt,KG,hsz]
 have hkS:s.heap.objs.size<=kS:=Ka hD (Ma hDk);have rel:∀ (i:Nat) (x:PyData×V×V) (v:Value),xs[i]?=some x->vs[i]?=some v->RelV x.2.1 v:=by
  intro i x v hx hv;obtain ⟨en,h1,h2⟩:=cO g4 i x hx;rw [ev,JU,h1] at hv;cases hv;exact h2.2.1
 have neD:∀ p∈X.pn++pins,p.1≠D:=fun p hp=>Kk (J4 (JX (I.pin p hp).1) hD);have nek:∀ p∈X.pn++pins,p.1≠kS:=fun p hp=>Kk (J4 (JX (I.pin p hp).1) hkS);have I0:Inv X.in2 ((kS,seqObj "list" (List.toArray []) 0) :: (D,seqObj "list" #[] e1) :: pins) σ H { s with heap:=h',toks:=tk }:=by
  have I0:=(I.kept (t':=tk) keep).in2;refine I0.cA fun p hp=>?_;rcases JV.mp hp with rfl | hp
  ·exact ⟨gk,I.hok.fresh hkS,Nat.ne_of_gt (J4 I.lt hkS),I.C1 hkS,fun v z=>nomatch z⟩
  ·rcases JV.mp hp with rfl | hp
   ·exact ⟨gD,I.hok.fresh hD,Nat.ne_of_gt (J4 I.lt hD),I.C1 hD,fun v z=>nomatch z⟩
   ·exact I0.pin p (Jx _ hp)
 have szD:X.s₀.heap.objs.size<=D:=Ka I.sz hD;have szk:X.s₀.heap.objs.size<=kS:=Ka I.sz hkS;have pk:∀ p∈X.pn++(D,seqObj "list" #[] e1) :: pins,p.1≠kS:=fun p hp=>by
  rcases Kb.mp hp with hp | hp
  ·exact nek p (J9 _ hp)
  ·rcases JV.mp hp with rfl | hp
   ·exact Kk hDk
   ·exact nek p (Jx _ hp)
 refine Es (J:=fun ks' s=>∃ H' e,Inv X.in2 ((kS,seqObj "list" (List.toArray ks') e) :: (D,seqObj "list" #[] e1) :: pins) σ H' s/\ar H H'/\∀ i u,ks'[i]?=some u->∃ v k,RelV v u/\ks[i]?=some k/\S.T X.K H' v k) (by rw [vl];exact h64) ?_ ?_ ?_ ⟨H,0,I0,ar.refl _,fun i u z=>absurd z (by rw [show (([]:List Value)[i]?)=none from List.getElem?_nil];exact nofun)⟩
 ·rintro x ks' s' hx hl ⟨H',e,I',sm,hks⟩;have hi:ks'.length < xs.length:=by rw [<- vl];exact (Js.mp hx).1
  have hxi:=Jq hi;have hki:=Jq (show ks'.length < ks.length by rw [kl];exact hi);refine Ke (v7 (X:=X.in2) (us:=[x]) (vs:=[xs[ks'.length].2.1]) F (hr.in1.in1) hb .nil xR I' (.cons (rel _ _ _ hxi hx) .nil) (hsp _ _ _ H' hxi hki sm)) (fun u s'' hu=>?_) fun _ _ z=>z;obtain ⟨v,H'',I'',rv,sm',ky⟩:=hu;have gk':=(I''.pin (kS,seqObj "list" (List.toArray ks') e) (Jx _ Jy)).1;have ea:(List.toArray ks').push u=List.toArray (ks'++[u]):=by simp
  obtain ⟨c2,hc2⟩:∃ c2,(s''.heap.update kS (Obj.mapSeq (·.push u))).get? kS=some (seqObj "list" (List.toArray (ks'++[u])) c2):=⟨_,by rw [<- ea];exact get?_update_seq gk' (·.push u)⟩;refine ⟨⟨e,gk'⟩,H'',c2,I''.Gn szk pk (fun b o hb e=>(K0 _ _ (Ne.symm hb)).trans e) hc2 (fun v z=>nomatch z),sm.trans sm',fun i w hw=>?_⟩;rw [List.getElem?_append] at hw;split at hw
  ·obtain ⟨v',k',a1,a2,a3⟩:=hks i w hw;exact ⟨v',k',a1,a2,S.same a3 sm'⟩
  ·rename_i hge;have:i=ks'.length:=by
    have:=(Js.mp hw).1;rw [Ll] at this;omega
   subst this;rw [LR] at hw;cases hw;exact ⟨v,_,rv,hki,ky⟩
 ·rintro ks' s' ⟨H',e,I',_⟩;exact ⟨e,(I'.pin (kS,seqObj "list" (List.toArray ks') e) (Jx _ Jy)).1⟩
 ·rintro ks' s' hl ⟨H',e,I',sm,hks⟩;have gk':=I'.pin (kS,seqObj "list" (List.toArray ks') e) (Jx _ Jy);have gD':=I'.pin (D,seqObj "list" #[] e1) (Jx _ (JJ _ Jy));have ky:∀ i,i < vs.length->S.Hh s'.heap (ks'.getD i Value.none) (ks.getD i S.dft):=by
   intro i hi;obtain ⟨v,k,a1,a2,a3⟩:=hks i _ (Jq (show i < ks'.length by rw [hl];exact hi));rw [Ki,Ki,a2,Jq (show i < ks'.length by rw [hl];exact hi)];exact S.key I' a1 a3
  refine IU (κ:=tuples' true) (lt:=Co S ks) hl (by rw [vl];exact h64) (Kk hDk) gk'.1 gD'.1 (fun h2 Q' hq=>?_) (fun i j C hi hj hC=>?_) (by rw [vl,<-kl];exact Hs S kn) fun p hp hu=>hR _ ?_
  ·refine S.kd (s:=s') (us:=ks') (fun u hu=>?_) (by omega) hq;obtain ⟨i,hi⟩:=K7.mp hu;obtain ⟨v,k,a1,a2,a3⟩:=hks i u hi;exact ⟨k,S.key I' a1 a3⟩
  ·unfold kas_ask;exact S.ask (hr.in1.in1).units (ky i hi) (ky j hj) hC
  ·have I2:Inv X pins σ H' s':=I'.vf.vf.IH;rw [vl] at hp hu;have el:Vals (p.toList.map (valAt xs)) (p.toList.map fun i=>vs.getD i Value.none):=by
    have hb:∀ i∈p.toList,i < xs.length:=fun i hi=>by
     have:=(LX.mp hp).mem_iff.mp hi;simpa using this
    revert hb;generalize p.toList=l;intro hb;induction l with
    | nil=>exact .nil
    | cons i l ih =>
     refine .cons ?_ (ih fun j hj=>hb j (JJ _ hj));have hi:=hb i Jy;unfold valAt;show RelV _ (vs.getD i Value.none);rw [Jq hi,Ki,Jq (show i < vs.length by rw [vl];exact hi)];exact rel i _ _ (Jq hi) (Jq (show i < vs.length by rw [vl];exact hi))
   have gDD:((s'.heap.update kS (Obj.mapSeq fun _=>(#[]:Array Value)))).get? D=some (seqObj "list" #[] e1):=(K0 _ _ (Nat.ne_of_gt hDk)).trans gD'.1;obtain ⟨c2,hc2⟩:∃ c2,((s'.heap.update kS (Obj.mapSeq fun _=>(#[]:Array Value))).update D (Obj.mapSeq fun _=>List.toArray (p.toList.map fun i=>vs.getD i Value.none))).get? D=some (seqObj "list" (List.toArray (p.toList.map fun i=>vs.getD i Value.none)) c2):=⟨_,get?_update_seq gDD fun _=>_⟩;refine ⟨.ref D,_,I2.ID (o:=.lst (p.toList.map (valAt xs))) szD szk gD'.2.1 gk'.2.1 gD'.2.2.1 gk'.2.2.1 (I'.vf.sH) I'.sH neD nek (fun b u b1 b2 e=>(K0 _ _ (Ne.symm b1)).trans ((K0 _ _ (Ne.symm b2)).trans e)) ⟨?_,_,c2,el,hc2⟩,rfl,q H' D p sm gD'.2.1 hp hu⟩;rw [Jt,KG,hp.size,Ku];omega
end
section
variable {X:Cx} {k:Nat} {g:Addr} {fd:FuncData} {ps:List Str} {sp:Sp} {f:Str} {p pf pos kpos:Pos} {e:Expr} {te:TE}
theorem vy {S:KS} (F:br X.prog X.w X.K X.mg X.base CX0 k g fd ps sp) (hr:cq (k+2) X.A) (hb:Binds X.K fd ps []) (hgs:Gl X "sorted") (hms:X.mg "sorted" = none) (hv:bootBuiltins "sorted" = some (.builtin "sorted")) (hgf:Gl X f) (hmf:X.mg f=some (.ref g)) (hdf:(f==("__debug__" : Str))=false)
  (ha:PA X [e] (aR te gp)) (h1:PySem.W.isStarred e=false):PE X (.Call (.Name "sorted" p) [e] [⟨some "key", .Name f pf,kpos⟩] pos) (tCB (tm S X.K sp) (aR te gp)):=by
 intro pins s σ H Q I h;refine LU (km I hgs hms hv ?_ (by decide) (by decide));refine callWith_kw (thn (ha pos pins s σ H _ I h) fun us s1 ⟨vs,H1,I1,r1,q1⟩=>?_) (by rw [ao h1];rfl) (by rw [ao h1];rfl) (by rfl) (by rfl);have pk:PK X [⟨some "key", .Name f pf,kpos⟩] (aR (tC (.ref g)) gp):=yh (lX hgf hmf rfl hdf) Bi;refine thn (pk pos pins s1 σ H1 (fun zs H2=>zs=[.ref g]/\H2=H1) I1 ⟨rfl,rfl⟩) fun ws s2 ⟨zs,H2,I2,rz,e1,e2⟩=>?_;subst e1 e2;cases rz with
 | cons a b =>
  cases b;have a:_=Value.ref g:=a;subst a;exact oF F hr hb I2 r1 q1
end
namespace Sg
noncomputable def zN (S:KS) (f:Fn) (d:PyData):Option S.κ:=match f.F [d] with | some (.dat k,[])=>S.of k | _=>none
noncomputable def jI (S:KS) (f:Fn):List PyData->Option (List S.κ)
 | []=>some []
 | d :: ds=>match zN S f d,jI S f ds with | some k,some ks=>some (k :: ks) | _,_=>none
noncomputable def x6 {S:KS} (x:S.κ×PyData):List (S.κ×PyData)->List (S.κ×PyData)
 | []=>[x]
 | y :: r=>if S.lt x.1 y.1=true then x :: y :: r else y :: x6 x r
noncomputable def p9 {S:KS}:List (S.κ×PyData)->List (S.κ×PyData)
 | []=>[]
 | x :: r=>x6 x (p9 r)
theorem iA {S:KS} (x:S.κ×PyData):∀ l,(x6 x l).Perm (x :: l)
 | []=>Lg _
 | y :: r=>by
  unfold x6;split
  ·exact Lg _
  ·exact ((iA x r).cons y).trans (List.Perm.swap ..)
theorem eM {S:KS}:∀ l:List (S.κ×PyData),(p9 l).Perm l
 | []=>Lg _
 | x :: r=>(iA x _).trans ((eM r).cons x)
theorem qB {S:KS} (x:S.κ×PyData):∀ l,(∀ y∈l,x.1≠y.1)->l.Pairwise (fun a b=>S.lt a.1 b.1=true)->(x6 x l).Pairwise fun a b=>S.lt a.1 b.1=true
 | [],_,_=>by simp [x6]
 | y :: r,hn,h=>by
  obtain ⟨h1,h2⟩:=KQ.mp h;unfold x6;split
  ·rename_i c;refine KQ.mpr ⟨fun b hb=>?_,h⟩;rcases JV.mp hb with rfl | hb
   ·exact c
   ·exact S.tr c (h1 b hb)
  ·rename_i c;refine KQ.mpr ⟨fun b hb=>?_,qB x r (fun z hz=>hn z (JJ _ hz)) h2⟩;rcases JV.mp ((iA x r).mem_iff.mp hb) with rfl | hb
   ·exact S.tot (hn y Jy) (Bool.eq_false_iff.mpr c)
   ·exact h1 b hb
theorem lS {S:KS}:∀ l:List (S.κ×PyData),(l.map (·.1)).Nodup->(p9 l).Pairwise fun a b=>S.lt a.1 b.1=true
 | [],_=>.nil
 | x :: r,h=>by
  obtain ⟨h1,h2⟩:=KC.mp h;exact qB x _ (fun y hy z=>h1 (Kh.mpr ⟨y,(eM r).mem_iff.mp hy,z.symm⟩)) (lS r h2)
theorem vE {S:KS} {ks:List S.κ} {ds:List PyData} {p:Array Nat} (hl:ks.length=ds.length) (hn:ks.Nodup) (hp:Pm ds.length p) (hu:Up (Co S ks) p ds.length):(p9 (ks.zip ds)).map (·.2)=p.toList.map fun i=>ds.getD i .none:=by
 have e1:(ks.zip ds).map (·.1)=ks:=by rw [List.map_fst_zip (Nat.le_of_eq hl)]
 have zl:(ks.zip ds).length=ds.length:=by rw [List.length_zip,hl,Nat.min_self]
 have O:Ord (Co S ks) ds.length:=by rw [<- hl];exact Hs S hn
 have row:p.toList.map (fun i=>(ks.getD i S.dft,ds.getD i .none))=p9 (ks.zip ds):=by
  refine List.Perm.eq_of_pairwise (le:=fun a b=>S.lt a.1 b.1=true) (fun a b _ _ h1 h2=>?_) ?_ (lS _ (by rw [e1];exact hn)) ?_
  ·have:=S.tr h1 h2;rw [S.irr _] at this;cases this
  ·rw [L0,Kv];intro i j hi hj hij;have:=hu.all O hij (by rw [<- hp.size];simpa using hj);unfold at_ at this;rw [LS,LS,Kw (by simpa using hi),Kw (by simpa using hj)] at this;exact this
  ·refine (((LX.mp hp).map _).trans ?_).trans (eM _).symm;refine List.Perm.of_eq ?_;apply List.ext_getElem?;intro i;rw [List.toList_toArray,JU];rcases Nat.lt_or_ge i ds.length with z | z
   ·have zk:i < ks.length:=by rw [hl];exact z
    rw [List.getElem?_range z,show (ks.zip ds)[i]?=some (ks[i],ds[i]) from List.getElem?_zip_eq_some.mpr ⟨Jq zk,Jq z⟩];simp [Ki,Jq (show i < ks.length by rw [hl];exact z),Jq z]
   ·rw [List.getElem?_eq_none (by rw [Kz];exact z),List.getElem?_eq_none (by rw [zl];exact z)];rfl
 rw [<- row,Ls];rfl
theorem lJ {S:KS} {f:Fn}:∀ {ds:List PyData} {ks:List S.κ},jI S f ds=some ks->ks.length=ds.length
 | [],ks,h=>by cases h;rfl
 | d :: ds,ks,h=>by
  unfold jI at h;split at h
  ·rename_i k ks' _ h2;cases h;rw [J2,lJ h2,J2]
  ·cases h
theorem kh {S:KS} {f:Fn}:∀ {ds:List PyData} {ks:List S.κ} {i:Nat} {d:PyData} {k:S.κ},jI S f ds=some ks->ds[i]?=some d->ks[i]?=some k->zN S f d=some k
 | [],ks,i,d,k,h,h1,h2=>by simp at h1
 | e :: ds,ks,i,d,k,h,h1,h2=>by
  unfold jI at h;split at h
  ·rename_i k' ks' h3 h4;cases h;cases i with
   | zero=>simp at h1 h2;subst h1 h2;exact h3
   | succ i=>exact kh h4 (by simpa using h1) (by simpa using h2)
  ·cases h
noncomputable def nu (S:KS) (f:Fn):List PyData->Option PR
 | [.dict kvs]=>match jI S f (kvs.map (·.1)) with
  | some ks=>if kvs.length < 4096/\@decide ks.Nodup (@List.nodupDecidable _ S.dec ks)=true then some (.frs (.list ((p9 (ks.zip (kvs.map (·.1)))).map (·.2)))) else none
  | none=>none
 | _=>none
noncomputable def n0 (S:KS) (f:Fn) (hm:f.ms=[.dat]):Prm where
 r:=fun K=>tm S K (cE f K)
 f:=nu S f
 ok:=by
  intro K F H ds vs pr Q hf hv hF q;unfold nu at hf;split at hf
  ·rename_i kvs;split at hf
   ·rename_i ks hks;split at hf
    ·rename_i c;replace c:kvs.length < 4096/\ks.Nodup:=⟨c.1,@of_decide_eq_true _ (_) c.2⟩;cases hf;obtain ⟨v,r,rfl,⟨a,rfl,ep,xs,ea,z,dp⟩,rfl⟩:=hv;have xl:=dp.ko;have kl:ks.length=(kvs.map (·.1)).length:=lJ hks;have xk:xs.length=(kvs.map (·.1)).length:=by rw [xl,Jt]
     refine ⟨a,ep,xs,ks,rfl,ea,by rw [xl];exact c.1,by rw [kl,xk],c.2,fun i x k H' hx hk sm=>?_,fun H' D p sm hD hp hu=>?_⟩
     ·obtain ⟨d1,d2⟩:=dp.get hx;have kf:=kh hks d1 hk;unfold zN at kf;split at kf
      ·rename_i kd hFd;have d3:Dm K F H' x.1 x.2.1:=d2.pr (fun b o e _=>sm b o e) fun _ z=>z;refine ⟨F,[x.1],[],.dat kd,[],hFd,by rw [hm];exact ⟨d3,rfl⟩,fun b hb=>?_,fun v' H'' hs hr=>⟨fun b o e=>hs b o e (by simp),?_⟩⟩
       ·intro z;cases e:H b with
        | none=>exact hF b hb e
        | some o=>rw [sm b o e] at z;cases z
       ·exact S.ofT kf hr.1
      ·cases kf
     ·have hDn:H D=none:=sm.free hD;refine q _ _ (fun b o e=>?_) ⟨D,rfl,hDn,_,af,?_,?_⟩
      ·have:b≠D:=fun z=>by rw [z,hDn] at e;cases e
       rw [ai this];exact sm b o e
      ·rw [Jt,KG,hp.size];exact z
      ·rw [xk] at hp hu;rw [vE kl c.2 hp hu];have hb:∀ i∈p.toList,i < xs.length:=fun i hi=>by
        have:=(LX.mp hp).mem_iff.mp hi;rw [xk];simpa using this
       have hU:∀ b,b≠D->upd H' D (.lst (p.toList.map (valAt xs))) b=H' b:=fun b hb=>ai hb;generalize upd H' D (.lst (p.toList.map (valAt xs)))=H9 at hU;revert hb;generalize p.toList=l;intro hb;induction l with
       | nil=>exact rfl
       | cons i l ih =>
        have hi:=hb i Jy;obtain ⟨d1,d2⟩:=dp.get (Jq hi);refine ⟨_,_,rfl,?_,ih fun j hj=>hb j (JJ _ hj)⟩;show Dm K _ _ ((kvs.map (·.1)).getD i .none) (valAt xs i);unfold valAt;rw [Ki,d1,Jq hi];have d3:Dm K F H' xs[i].1 xs[i].2.1:=d2.pr (fun b o e _=>sm b o e) fun _ z=>z;refine (d3.fresh hD).pr (fun b o e _=>?_) fun _ z=>z;have:b≠D:=fun z=>by rw [z,hD] at e;cases e
        rw [hU b this];exact e
    ·cases hf
   ·cases hf
  ·cases hf
section
variable {X:Cx} {k:Nat} {g:Addr} {fd:FuncData} {ps:List Str} {fn:Fn} {f:Str} {p pf pos kpos:Pos} {e:Expr} {te:TE}
theorem A8 (S:KS) (hm:fn.ms=[.dat]) (F:br X.prog X.w X.K X.mg X.base CX0 k g fd ps (cE fn X.K)) (hr:cq (k+2) X.A) (hb:Binds X.K fd ps []) (hgs:Gl X "sorted") (hms:X.mg "sorted" = none) (hv:bootBuiltins "sorted" = some (.builtin "sorted")) (hgf:Gl X f) (hmf:X.mg f=some (.ref g)) (hdf:(f==("__debug__" : Str))=false)
  (ha:JA X [e] (aR te gp)) (h1:PySem.W.isStarred e=false):JE X (.Call (.Name "sorted" p) [e] [⟨some "key", .Name f pf,kpos⟩] pos) (tCB ((n0 S fn hm).r X.K) (aR te gp)):=⟨vy F hr hb hgs hms hv hgf hmf hdf ha.h h1⟩
end
end Sg
abbrev Fy:=Str×Str×Ky
noncomputable def ltF (x y:Fy):Bool:=if x.1=y.1 then (if x.2.1=y.2.1 then ltK x.2.2 y.2.2 else decide (x.2.1.cps.toList < y.2.1.cps.toList)) else decide (x.1.cps.toList < y.1.cps.toList)
theorem ue (x:Fy):ltF x x=false:=by
 unfold ltF;rw [JB rfl,JB rfl];exact rW _
theorem yV {x y:Str} (h:x.cps.toList=y.cps.toList):x=y:=by
 cases x;cases y;simpa using Array.toList_inj.mp h
theorem rN (x:Str):¬x.cps.toList < x.cps.toList:=List.lt_irrefl _
theorem wo {x y z:Fy} (h1:ltF x y=true) (h2:ltF y z=true):ltF x z=true:=by
 obtain ⟨x1,x2,x3⟩:=x;obtain ⟨y1,y2,y3⟩:=y;obtain ⟨z1,z2,z3⟩:=z;unfold ltF at *;dsimp only at *;split at h1 <;> split at h2
 ·rename_i a b;rw [JB (a.trans b)];split at h1 <;> split at h2
  ·rename_i c d;rw [JB (c.trans d)];exact Bv h1 h2
  ·rename_i c d;rw [Jz (by rw [c];exact d),c];exact h2
  ·rename_i c d;rw [Jz (by rw [<- d];exact c),<-d];exact h1
  ·have:=List.lt_trans (Kq h1) (Kq h2);rw [Jz (fun e=>by rw [e] at this;exact rN _ this)];exact J6 this
 ·rename_i a b;rw [Jz (by rw [a];exact b),a];exact h2
 ·rename_i a b;rw [Jz (by rw [<- b];exact a),<-b];exact h1
 ·have:=List.lt_trans (Kq h1) (Kq h2);rw [Jz (fun e=>by rw [e] at this;exact rN _ this)];exact J6 this
theorem rO {x y:Str} (hn:¬x=y) (h:¬x.cps.toList < y.cps.toList):y.cps.toList < x.cps.toList :=
 Lu fun n=>hn (yV (List.le_antisymm (List.not_lt.mp n) (List.not_lt.mp h)))
theorem ri {x y:Fy} (hn:x≠y) (h:ltF x y=false):ltF y x=true:=by
 obtain ⟨x1,x2,x3⟩:=x;obtain ⟨y1,y2,y3⟩:=y;unfold ltF at *;dsimp only at *;split at h
 ·rename_i a;rw [JB a.symm];split at h
  ·rename_i b;rw [JB b.symm];exact ye (fun z=>hn (by rw [a,b,z])) h
  ·rename_i b;rw [Jz (fun z=>b z.symm)];exact J6 (rO b (LC h))
 ·rename_i a;rw [Jz (fun z=>a z.symm)];exact J6 (rO a (LC h))
abbrev FyV (k:Fy):List V:=[.int k.2.2.1,.int k.2.2.2.1,.str k.2.2.2.2]
def FyT (K:Fg) (H:Hp) (u:V) (k:Fy):Prop:=∃ t t2,u=.ref t/\SqT K H t [.str k.1,.str k.2.1,.ref t2]/\SqT K H t2 (FyV k)/\PyData.strOk k.2.2.2.2=true
theorem nv {K:Fg} {H H':Hp} {t:Addr} {xs:List V} (h:SqT K H t xs) (e:ar H H'):SqT K H' t xs:=by
 rcases h with (h | ⟨o,h⟩) | h
 ·exact .inl (.inl (e _ _ h))
 ·exact .inl (.inr ⟨o,e _ _ h⟩)
 ·exact .inr h
def FyH (h:Heap) (u:Value) (k:Fy):Prop:=∃ t t2 a1 a2 b1 b2 b3,u=.ref t/\IsTup h t #[.str k.1 a1,.str k.2.1 a2,.ref t2]/\IsTup h t2 #[.int k.2.2.1 b1,.int k.2.2.2.1 b2,.str k.2.2.2.2 b3]/\PyData.strOk k.2.2.2.2=true
theorem Bh {X:Cx} {pins:List (Addr×Obj)} {σ:List (Option V)} {H:Hp} {s:Shared} {v:V} {u:Value} {k:Fy} (I:Inv X pins σ H s) (r:RelV v u) (h:FyT X.K H v k):FyH s.heap u k:=by
 obtain ⟨t,t2,rfl,h,h',so⟩:=h;obtain ⟨its,r2,h2,_⟩:=I.tuple h;obtain ⟨its',r3,h3,_⟩:=I.tuple h';cases r2 with
 | cons a r2 =>
  cases r2 with
  | cons b r2 =>
   cases r2 with
   | cons c r2 =>
    cases r2;obtain ⟨t1,rfl⟩:=a;obtain ⟨t4,rfl⟩:=b;have c:_=Value.ref t2:=c;subst c;cases r3 with
    | cons a r3 =>
     cases r3 with
     | cons b r3 =>
      cases r3 with
      | cons c r3 =>
       cases r3;obtain ⟨q1,rfl⟩:=a;obtain ⟨q2,rfl⟩:=b;obtain ⟨q3,rfl⟩:=c;exact ⟨t,t2,t1,t4,q1,q2,q3,r,h2,h3,so⟩
noncomputable def kyD (k:Ky):PyData:=.tuple [.int k.1,.int k.2.1,.str k.2.2]
theorem ua (a b:Ky):PyData.eqv (kyD a) (kyD b)=true↔a=b:=by
 obtain ⟨a1,a2,a3⟩:=a;obtain ⟨b1,b2,b3⟩:=b;simp [kyD,PyData.eqv,PyData.eqvAll]
theorem nW {h:Heap} {t:Addr} {k:Ky} {b1 b2 b3:Tok} (hx:IsTup h t #[.int k.1 b1,.int k.2.1 b2,.str k.2.2 b3]):∃ as,Reads h (.ref t) (kyD k) as:=by
 obtain ⟨o,h1,h2,n,h4⟩:=hx;exact ⟨_,.tuple h1 h2 h4 (.cons (.int _ _) (.cons (.int _ _) (.cons (.str _ _) .nil)))⟩
theorem gP {k:Ky} (h:PyData.strOk k.2.2=true):SeqAt.shaped (kyD k)=true:=by
 have d:(kyD k).depth<=64:=by simp [kyD,PyData.depth,PyData.depthAll]
 have l:(kyD k).canLay0=true:=by simp [kyD,PyData.canLay0,PyData.canLayAll0,h]
 simp [SeqAt.shaped,l,d]
theorem Ds {P:Program} {w:World} {A:Around} {E:Value->Shared->Prop} {s:Shared} {u v:Value} {a b:Fy} {C:Bool->Shared->Prop} (hu:A.units+64 < cLine) (hx:FyH s.heap u a) (hy:FyH s.heap v b) (h:C (ltF a b) s):wpAny (model P w) A (keyLt' (tuples' true) u v) C E s:=by
 obtain ⟨x,x',t1,t2,t3,t4,t5,rfl,hx,hx',ox⟩:=hx;obtain ⟨y,y',u1,u2,u3,u4,u5,rfl,hy,hy',oy⟩:=hy;obtain ⟨ox,gx,cx,n,dx⟩:=hx;obtain ⟨oy,gy,cy,k,dy⟩:=hy;unfold ltF at h;refine kat_lt gx dx gy dy ?_;show KatLex P w A true _ C [(.str a.1 t1,.str b.1 u1),(.str a.2.1 t2,.str b.2.1 u2),(.ref x',.ref y')] 0 s;refine kat_cons (eqBool_str (kat_go (fun e=>kat_yes ?_) fun e=>kat_no (oneLt_str ?_)))
 ·rw [JB (Kg.mp e)] at h;refine kat_cons (eqBool_str (kat_go (fun e=>kat_yes ?_) fun e=>kat_no (kat_one _ _ (lt_str ?_))))
  ·rw [JB (Kg.mp e)] at h;obtain ⟨as,ra⟩:=nW (k:=a.2.2) hx';obtain ⟨bs,rb⟩:=nW (k:=b.2.2) hy';refine kat_cons (SeqAt.eqAt_reads _ _ A s _ _ as bs ra rb (SeqAt.canLay_of_shaped (gP ‹_›)) (SeqAt.canLay_of_shaped (gP ‹_›)) (SeqAt.room_of_shaped (gP ‹_›) hu) P w _ _ (kat_go (fun e=>kat_yes ?_) fun e=>kat_no (kat_one _ _ ?_)))
   ·have e:=(ua _ _).mp e;rw [e,rW] at h;exact kat_nil h
   ·have ne:a.2.2≠b.2.2:=fun z=>by rw [(ua _ _).mpr z] at e;cases e
    refine qE hx' hy' (.ii _ _ _ _ (.ii _ _ _ _ (.ss _ _ _ _ .nil))) (by omega) ?_;have el:(if a.2.2.1=b.2.2.1 then if a.2.2.2.1=b.2.2.2.1 then if a.2.2.2.2=b.2.2.2.2 then false else decide (a.2.2.2.2.cps.toList < b.2.2.2.2.cps.toList) else decide (a.2.2.2.1 < b.2.2.2.1) else decide (a.2.2.1 < b.2.2.1))=ltK a.2.2 b.2.2:=by
     unfold ltK;split
     ·split
      ·split
       ·rename_i z;rw [z,J3 (List.lt_irrefl _)]
       ·rfl
      ·rfl
     ·rfl
    rw [el];exact h
  ·rw [Jz (fun z=>by rw [z,Ks] at e;cases e)] at h;exact h
 ·rw [Jz (fun z=>by rw [z,Ks] at e;cases e)] at h;exact h
theorem CY {h:Heap}:∀ {us:List Value},(∀ u∈us,∃ k,FyH h u k)->∃ fs,KatTups h us fs/\fs.length=us.length/\∀ v∈fs,∃ i t,v=.str i t
 | [],_=>⟨[],trivial,rfl,fun _ z=>nomatch z⟩
 | u :: us,hu=>by
  obtain ⟨k,t,t2,t1,a2,a3,a4,a5,rfl,⟨o,g,c,n,d⟩,_⟩:=hu u Jy;obtain ⟨fs,h1,h2,h3⟩:=CY fun v hv=>hu v (JJ _ hv);refine ⟨.str k.1 t1 :: fs,KatTups.cons g c d rfl h1,by rw [J2,h2,J2],fun v hv=>?_⟩;rcases JV.mp hv with rfl | hv
  ·exact ⟨_,_,rfl⟩
  ·exact h3 v hv
noncomputable def HJ:PyData->Option Fy | .tuple [.str a,.str b,.tuple [.int i,.int j,.str x]]=>some (a,b,i,j,x) | _=>none
noncomputable def fyS:KS where
 κ:=Fy
 dft:=("", "", 0,0, "")
 dec:=inferInstance
 lt:=ltF
 irr:=ue
 tr:=wo
 tot:=ri
 T:=FyT
 same:=fun ⟨t,t2,e,h1,h2,h3⟩ sm=>⟨t,t2,e,nv h1 sm,nv h2 sm,h3⟩
 Hh:=FyH
 key:=Bh
 ask:=Ds
 kd:=fun {P w A E s us Q} hu h0 hq=>by
  obtain ⟨fs,t1,t2,t3⟩:=CY hu;refine kat_kind (T:=.type "str") t1 (by rw [t2];exact h0) (fun v hv=>?_) rfl hq;obtain ⟨i,t,rfl⟩:=t3 v hv;exact Looks.of_pure rfl
 of:=HJ
 ofT:=fun {K F H d u k} e h=>by
  unfold HJ at e;split at e
  ·cases e;obtain ⟨t,ys,rfl,sq,_,u1,r1,rfl,e1,u2,r2,rfl,e2,u3,r3,rfl,e3,rfl⟩:=h;obtain ⟨t2,zs,rfl,sq2,_,w1,q1,rfl,f1,w2,q2,rfl,f2,w3,q3,rfl,f3,rfl⟩:=e3;have e1:u1=_:=e1.1;have e2:u2=_:=e2.1;have f1:w1=_:=f1;have f2:w2=_:=f2;have f4:w3=_:=f3.1;subst e1 e2 f1 f2 f4;exact ⟨t,t2,rfl,sq,sq2,f3.2.2⟩
  ·cases e
open PySem PySem.Spec PyProof.Rows
theorem qP {S:KS} {f:Fn} {hm:f.ms=[.dat]} {e:En} {x:AV} {kvs:List (PyData×PyData)} {ks:List S.κ} {Q:RV->En->Prop} (h1:aE e [x]=some [.dict kvs]) (h2:Sg.jI S f (kvs.map (·.1))=some ks) (h3:kvs.length < 4096) (h4:ks.Nodup) (q:∀ r,r=(Sg.p9 (ks.zip (kvs.map (·.1)))).map (·.2)->Q (.frs (.list r)) e):WPr (Sg.n0 S f hm) [x] e Q:=by
 have e:(Sg.n0 S f hm).f [.dict kvs]=some (PR.frs (.list ((Sg.p9 (ks.zip (kvs.map (·.1)))).map (·.2)))):=by
  show Sg.nu S f [.dict kvs]=_;simp only [Sg.nu,h2];rw [JB ⟨h3,@decide_eq_true _ (_) h4⟩]
 exact ⟨_,_,h1,e,q _ rfl⟩
theorem ng {α β γ:Type} (f:α->β) (g:α->γ):∀ U:List α,(U.map f).zip (U.map g)=U.map fun a=>(f a,g a)
 | []=>rfl
 | a :: U=>by rw [List.map_cons,List.map_cons,List.zip_cons_cons,ng f g U];rfl
theorem B5 {S:KS} {α:Type} (key:α->S.κ) (enc:α->PyData) {U L:List α} (hU:(U.map key).Nodup) (hL:L.Pairwise fun a b=>S.lt (key a) (key b)=true) (hp:L.Perm U):(Sg.p9 ((U.map key).zip (U.map enc))).map (·.2)=L.map enc:=by
 have ez:=ng key enc U;have row:L.map (fun a=>(key a,enc a))=Sg.p9 ((U.map key).zip (U.map enc)):=by
  refine List.Perm.eq_of_pairwise (le:=fun a b=>S.lt a.1 b.1=true) (fun a b _ _ h1 h2=>?_) ?_ (Sg.lS _ ?_) ?_
  ·have:=S.tr h1 h2;rw [S.irr] at this;cases this
  ·rw [L0];exact hL
  ·rw [List.map_fst_zip (by simp)];exact hU
  ·refine List.Perm.trans ?_ (Sg.eM _).symm;rw [ez];exact hp.map _
 rw [<- row,Ls];rfl
open PySem PySem.Spec PyProof.Rows PySem.W
theorem HC {X:Cx} {tg e:Expr} {te:TE} (h:JE X e te):JI X tg e (Ht X.K te):=⟨fun pins s σ H R I q=>q.elim (rh h.h pins s σ H R I) (vO h.h pins s σ H R I)⟩
def Cv (K:Fg):V->Hp->VK->Prop:=fun x H Q=>∃ F d,Vw K F H d x/\∀ H',ar H H'->Q (.bl (isL d||isT d)) H'
noncomputable def CW:Prm:=Prm.one Cv (fun d=>some (.dat (.bool (isL d||isT d)))) fun K F H x u pr Q hf hx hd q=>by
 cases hf;exact ⟨F,x,hx,fun H' sm=>q _ H' sm rfl⟩
def E7 (K:Fg):List V->Hp->VK->Prop:=fun vs H Q=>∃ x tp F d,vs=[x,.ref tp]/\H tp=some (.tup [.ty "list", .ty "tuple"])/\Vw K F H d x/\Q (.bl (isL d||isT d)) H
theorem vq {K:Fg} (d:PyData):PySem.W.kitAny K (.type (tyN d)) [.type "list", .type "tuple"]=some (isL d||isT d):=by
 unfold PySem.W.kitAny PySem.W.kitAny PySem.W.kitAny;rw [Aw d,Ce d];cases isL d <;> cases isT d <;> rfl
theorem xo {X:Cx}:aJ X (.builtin "isinstance") (E7 X.K):=by
 rintro pins s σ H xs us Q I r ⟨x,tp,F,d,rfl,ht,hv,q⟩;obtain ⟨u,w',rfl,r1,r2⟩:=vals2 r;cases (show w'=Value.ref tp from r2);obtain ⟨_,its,rv,⟨o,g1,g2,n,g3⟩⟩:=(show aQ X.prog X.w H s.heap tp (.tup [.ty "list", .ty "tuple"]) from I.hok tp _ ht);obtain ⟨u1,u2,rfl,ra,rb⟩:=vals2 rv;cases (show u1=Value.type "list" from ra);cases (show u2=Value.type "tuple" from rb);have htp:s.heap.get? tp=some ⟨.type "tuple", o.dict,.seq [Value.type "list", Value.type "tuple"].toArray n,o.slots⟩:=by
  rw [g1];obtain ⟨c,dd,da,sl⟩:=o;have g2:c=.type "tuple" := g2;have g3:da=_:=g3;subst g2 g3;rfl
 have e:=vq (K:=X.K) d;have fin:∀ tk,EP X pins σ Q (.bool (isL d||isT d)) { s with toks:=tk }:=fun tk=>⟨.bl _,H,I.tok _,rfl,q⟩;cases d with
 | none=>rw [Cs hv] at r1;cases (show u=Value.none from r1);exact LA PySem.W.kitx_none I.kIn True.intro htp e (fun z=>nomatch z) fin
 | bool y=>rw [vBl hv] at r1;cases (show u=Value.bool y from r1);exact LA PySem.W.kitx_bool I.kIn True.intro htp e (fun z=>nomatch z) fin
 | int i=>rw [vInt hv] at r1;obtain ⟨t,q⟩:=(show ∃ t,u=Value.int i t from r1);cases q;exact LA PySem.W.kitx_int I.kIn True.intro htp e (fun z=>nomatch z) fin
 | str y=>rw [(vStr hv).1] at r1;obtain ⟨t,q⟩:=(show ∃ t,u=Value.str y t from r1);cases q;exact LA PySem.W.kitx_str I.kIn True.intro htp e (fun z=>nomatch z) fin
 | list ds =>
  obtain ⟨a,xs,rfl,l,z,rs⟩:=lL hv;cases (show u=Value.ref a from r1);obtain ⟨its,rv,⟨o,k,h1,h2,h3,h4⟩,_⟩:=I.list l;exact LA PySem.W.kitx_list I.kIn ⟨o,h1,h2⟩ htp e (fun z=>nomatch z) fin
 | tuple ds =>
  obtain ⟨a,xs,rfl,l,z,rs⟩:=lN hv;cases (show u=Value.ref a from r1);obtain ⟨its,rv,⟨o,h1,h2,k,h4⟩,_⟩:=I.tuple l;exact LA PySem.W.kitx_tuple I.kIn ⟨o,h1,h2⟩ htp e (fun z=>nomatch z) fin
 | dict ds =>
  obtain ⟨a,rfl,ep,xs,ea,_⟩:=hv;cases (show u=Value.ref a from r1);obtain ⟨_,_,_,o,es,h1,h2,_⟩:=(show aQ X.prog X.w H s.heap a (.dD ep xs) from I.hok a _ ea);exact LA PySem.W.kitx_dict I.kIn ⟨o,h1,h2.1⟩ htp e (fun z=>nomatch z) fin
theorem Ed {X:Cx} {e:Expr} {te:TE} {x1} {p p2 p3 pos pos2:Pos} (hg:Gl X "isinstance") (hm:X.mg "isinstance" = none) (ha:JE X e te) (hs:PySem.W.isStarred e=false)
  (hb:JE X (.Name (Str.ofString "list") p2) (tC (.ty "list"))) (hb2:JE X (.Name (Str.ofString "tuple") p3) (tC (.ty "tuple"))) :
  JE X (.Call (.Name "isinstance" p) [e,.Tuple [.Name (Str.ofString "list") p2,.Name (Str.ofString "tuple") p3] x1 pos2] [] pos) (tCB (CW.r X.K) (aR te gp)):=by
 let te':TE:=fun σ H P=>∃ P0:VK,te σ H P0/\∀ x H1,P0 x H1->P x H1
 have ha':JE X e te':=⟨fun pins s σ H P I ⟨P0,h0,h1⟩=>Ke (ha.h pins s σ H P0 I h0) (fun v s' ⟨x,H',I',r,q⟩=>⟨x,H',I',r,h1 _ _ q⟩) fun _ _ z=>z⟩;have htu:JE X (.Tuple [.Name (Str.ofString "list") p2,.Name (Str.ofString "tuple") p3] x1 pos2) (DU (aR (tC (.ty "list")) (aR (tC (.ty "tuple")) gp))):=jb (eA hb (eA hb2 aj rfl) rfl);have outer:=eB (p:=p) (pos:=pos) (xo (X:=X)) hg hm (by decide +kernel) (eA ha' (eA htu aj rfl) hs) hs rfl (by decide) rfl;refine ⟨?_⟩;intro pins s σ H Q I hT;refine outer.h pins s σ H Q I ⟨_,hT,fun x H1 z=>?_⟩;obtain ⟨F,d,hv,q⟩:=(show Cv X.K x H1 Q from z);refine ⟨by decide,fun tp htp=>⟨x,tp,F,d,rfl,af,?_,q _ (ar.nw _ htp)⟩⟩;have sm:ar H1 (upd H1 tp (.tup [.ty "list", .ty "tuple"])):=ar.nw _ htp;have pr:=Pr.of_same (F:=F) sm;cases d with
 | list ds=>obtain ⟨a,rfl,z2⟩:=hv;exact ⟨a,rfl,tT.pr z2 pr (fun _ z=>z) (sm a)⟩
 | dict ds=>obtain ⟨a,rfl,z2⟩:=hv;exact ⟨a,rfl,tT.pr z2 pr (fun _ z=>z) (sm a)⟩
 | none=>exact Dm.pr pr (fun _ z=>z) hv
 | bool b=>exact Dm.pr pr (fun _ z=>z) hv
 | int b=>exact Dm.pr pr (fun _ z=>z) hv
 | str b=>exact Dm.pr pr (fun _ z=>z) hv
 | tuple b=>exact Dm.pr pr (fun _ z=>z) hv
noncomputable def DY:PyData->PyData->Option PR
 | .tuple ds,.tuple es=>Gq (.tuple ds) (.tuple es)
 | x,y=>DD (fun i j=>decide (i < j)) ltS x y
noncomputable def xu:Prm:=Prm.two (fun K=>rOr (rOr (rI0 fun i j=>.bl (decide (i < j))) Gv) (Ft K)) DY fun K F H x y u v pr Q hf hx hy hd q=>by
 unfold DY at hf;split at hf
 ·rename_i ds es;exact .inr (Hz.ok K F H [.tuple ds,.tuple es] [u,v] pr Q hf ⟨u,_,rfl,hx,v,_,rfl,hy,rfl⟩ hd q)
 ·exact .inl (ltP.ok K F H [x,y] [u,v] pr Q hf ⟨u,_,rfl,hx,v,_,rfl,hy,rfl⟩ hd q)
theorem lT {X:Cx} (hu:X.A.units < cLine):OpR X (compareOp .Lt) (fun x y=>xu.r X.K [x,y]):=orR qj (xH hu)
theorem o8 {P:Program} {w:World} {d:Addr} (hd:(d==sysModules)=false) :
  MeetsIn P w (Builtin.«dict.__len__» ⟨[.ref d],[]⟩) (fun _ R s=>∃ (o:Obj) (es:Array DictEntry) (ep:Nat),s.heap.get? d=some o/\o.ExactDict/\o.data=.dict es ep/\R (.ok (.ret (.int es.size s.toks))) { s with toks:=s.toks+1 }) :=
 .of_wp fun A R s ⟨o,es,ep,ho,hc,hdat,h⟩=>by
  show wpAny _ _ (dictSize d>>=_) _ _ s;unfold dictSize;refine Jp (Jp (La ho hdat (Jw ?_)));show wpAny _ _ (Builtin.Dict.pendingCount d>>=_) _ _ s;refine Jp (wpAny_pendingCount_other hd ?_);refine wpAny_ret_mkInt ?_;rw [Nat.add_zero];exact h
theorem o7 {P:Program} {w:World} {A:Around} {E:Value->Shared->Prop} {s:Shared} {d:Addr} {o:Obj} {es:Array DictEntry} {ep:Nat} {Q:Value->Shared->Prop} (hd:(d==sysModules)=false) (ho:s.heap.get? d=some o) (hc:o.ExactDict) (hdat:o.data=.dict es ep) (hfit:(es.size:Int) < 2 ^ 63)
  (h:Q (.int es.size (s.toks+1)) { s with toks:=s.toks+1+1 }):wpAny (model P w) A (call (.builtin "len") [.ref d]) Q E s:=by
 refine Calls.call_function_entry kind_len plain_len entry_len (args_len1 _) ?_;have ty:s.TypeIs (.ref d) "dict" := ⟨o,ho,hc.1⟩;unfold Builtin.«len»
 refine Jp (m:=oneArg "len" _) (Jw ?_)
 refine Jp (m:=callSpecial? (.ref d) (Str.ofString "__len__")) (Ld (name:=Str.ofString "__len__") ty F.slot_dict_len
  (call_meetsIn F.slot_dict_len ty F.entry_dict_len (F.args_dict_len_1 _) (o8 hd) ⟨o,es,ep,ho,hc,hdat,?_⟩))
 show wpAny _ _ _ _ _ { s with toks:=s.toks+1 };refine Jp (KJ (Jw ?_));refine Jp (wpAny_letGo ?_);show wpAny _ _ (if ((es.size:Nat):Int) < 0 then _ else _) _ _ _;rw [Jz (by omega)];show wpAny _ _ (if ((es.size:Nat):Int)>=2 ^ 63 then _ else _) _ _ _;rw [Jz (by omega)];exact Jp (wpAny_mkInt (Jw ⟨_,rfl,h⟩))
def B4 (K:Fg):V->Hp->VK->Prop:=fun x H Q=>∃ a ep xs,x=.ref a/\H a=some (.dD ep xs)/\Q (.int xs.length) H
noncomputable def yG:Prm:=Prm.one B4 (fun d=>match d with | .dict kvs=>some (.dat (.int kvs.length)) | _=>none) fun K F H x u pr Q hf hx hd q=>by
 split at hf
 ·cases hf;obtain ⟨a,rfl,ep,xs,ea,z,dp⟩:=hx;exact ⟨a,ep,xs,rfl,ea,q _ H (ar.rf H) (by rw [dp.ko];rfl)⟩
 ·cases hf
theorem om {X:Cx}:aJ X (.builtin "len") (yG.r X.K):=by
 intro pins s σ H xs us Q I rv q
 match xs,q with
 | [x],q =>
  obtain ⟨a,ep,ys,rfl,ea,q⟩:=(show B4 X.K x H Q from q);cases rv with
  | cons r0 r1 =>
  cases r1;have r0:_=Value.ref a:=r0;subst r0;obtain ⟨z,hd,nd,o,es,g1,g2,g3,g4⟩:=(show aQ X.prog X.w H s.heap a (.dD ep ys) from I.hok _ _ ea);have hsz:es.size=ys.length:=by rw [Lx g4];simp
  refine o7 hd g1 g2 g3 (by rw [hsz];rw [Ku] at z;omega) ?_;rw [hsz];exact ⟨.int _,H,I.tok _,⟨_,rfl⟩,q⟩
open PySem PySem.Spec PyProof.Rows
section
variable {X:Cx} {x:Str} {p pos:Pos} {e:Expr} {es:List Expr} {t:TA} {f:Addr} {fd:FuncData} {ps:List Str} {sp:Sp} {k m:Nat} {r:List V->Hp->VK->Prop} {id T:String}
theorem eVx (i:Nat) (a:X.N[i]?=some x:=by exact rfl) (b:Vis X.env.scope x:=by exact .inl rfl) (c:(x==("__debug__" : Str))=false:=by exact rfl) (d:(x==("__classdict__" : Str))=false:=by exact rfl):JE X (.Name x pos) (kX i):=oO i a b c d
theorem eVy (i:Nat) (a:X.N[i]?=some x:=by exact rfl) (b:Vis X.env.scope x:=by exact .inr (.inl rfl)) (c:(x==("__debug__" : Str))=false:=by exact rfl) (d:(x==("__classdict__" : Str))=false:=by exact rfl):JE X (.Name x pos) (kX i):=oO i a b c d
theorem eCl (F:br X.prog X.w X.K X.mg X.base CX0 k f fd ps sp) (hr:cq m X.A) (hm:X.mg x=some (.ref f)) (hk:PySem.W.keepIn X.K (.ref f)=true) (hb:Binds X.K fd ps []) (ha:JA X (e :: es) t)
  (a:k<=m:=by omega) (b:Gl X x:=by exact rfl) (h1:PySem.W.isStarred e=false:=by exact rfl) (h2:es.all (fun e=>!PySem.W.isStarred e)=true:=by exact rfl) (c:(x==("__debug__" : Str))=false:=by exact rfl):JE X (.Call (.Name x p) (e :: es) [] pos) (j5 sp [] E0 t) :=
 Cj F (hr.mono a) b hm hk hb .nil xR ha h1 h2 c
theorem eBs (hc:aJ X (.builtin id) r) (hm:X.mg x=none) (ha:JA X (e :: es) t) (a:Gl X x:=by exact rfl) (hv:bootBuiltins x=some (.builtin id):=by decide +kernel) (h1:PySem.W.isStarred e=false:=by exact rfl) (h2:es.all (fun e=>!PySem.W.isStarred e)=true:=by exact rfl)
  (hn:x ≠ "__name__" := by decide) (c:(x==("__debug__" : Str))=false:=by exact rfl):JE X (.Call (.Name x p) (e :: es) [] pos) (tCB r t):=eB hc a hm hv ha h1 h2 hn c
theorem eTs (hc:aJ X (.type T) r) (hm:X.mg x=none) (ha:JA X (e :: es) t) (a:Gl X x:=by exact rfl) (hv:bootBuiltins x=some (.type T):=by decide +kernel) (h1:PySem.W.isStarred e=false:=by exact rfl) (h2:es.all (fun e=>!PySem.W.isStarred e)=true:=by exact rfl)
  (hn:x ≠ "__name__" := by decide) (c:(x==("__debug__" : Str))=false:=by exact rfl):JE X (.Call (.Name x p) (e :: es) [] pos) (tCB r t):=eTy hc a hm hv ha h1 h2 hn c
end
theorem Fun.okX {P:Program} {w:World} {K:Fg} {mg:Str->Option Value} {base:Heap} {x qual:Str} {st:Stmt} {f:Addr} {fd:FuncData} {N ps:List Str} {k:Nat} {b:XS} {gd:List PyData} {ga:Nat->V} {ms:List PM} {rd:TS}
  (F:Fun K x qual st f fd) (S:ag N ps (aa st)) (hg:∀ g d,gd[g]?=some d->∀ F H,Dm K F H d (ga g)) (e:rd=rS K ga b)
  (j:∀ {cdv:Value} {A:Around} {outer:List Env} {s:Shared} {H:Hp} {E:XK},cq k (A.deeper (envOfC qual (aa st) s.heap.objs.size f cdv))->JSs (md CX0 P w K mg base N qual (aa st) f cdv A outer s H E).nox (bE st) rd)
  (hl:ms.length<=N.length:=by decide) (hp:ms.length=ps.length:=by exact rfl):br P w K mg base CX0 (k+1) f fd ps (cE (cM gd ms N.length b) K) :=
 F.okJ S (fun vs H Q E h=>(oj h).trans hp) fun cdv A outer s H vs Q E hr h=>⟨rd,j hr,by rw [e];exact tO (N:=N) hg h hl⟩
open PySem PySem.Spec PyProof.Rows
structure Fa (K:Fg) (mg:Str->Option Value) (x:Str) (st:Stmt) (ps:List Str) (a:Addr×FuncData):Prop where
 F:Fun K x x st a.1 a.2
 c:∀ us:List Value,us.length=ps.length->bindArgs a.2 ⟨us,[]⟩=pure (ps.zip us)
 m:mg x=some (.ref a.1)
section
variable {K:Fg} {mg:Str->Option Value} {x:Str} {st:Stmt} {ps:List Str} {a:Addr×FuncData} {h:Heap} {f:Addr} {od an:Option Addr} {sl:Array (Option Value)} {oc kV dc pm cd ct:Value}
theorem Fa.b (D:Fa K mg x st ps a):Binds K a.2 ps []:=.all D.c
def zJ (K:Fg) (mg:Str->Option Value):List (Str×Stmt×List Str)->Prop
 | []=>True
 | (x,st,ps) :: r=>(∃ a,Fa K mg x st ps a)/\zJ K mg r
theorem Gf {r:List (Str×Stmt×List Str)} (X:K.In h) (G:h.Ns mainGlobals mg) (a:PySem.W.nsIn K mainGlobals x=some (some (.ref f))) (l:K.lookup f=some ⟨oc,od,.func (PySem.W.fnOf x x (gI st) (bE st) (aa st) .none kV dc pm an cd ct),sl⟩) (c:PySem.W.codeIn K cd x=true) (k:PySem.W.keepIn K (.ref f)=true)
  (hb:∀ (kV dc pm:Value) (an:Option Addr) (cd ct:Value) (us:List Value),us.length=ps.length->bindArgs (PySem.W.fnOf x x (gI st) (bE st) (aa st) .none kV dc pm an cd ct) ⟨us,[]⟩=pure (ps.zip us)) (hr:zJ K mg r):zJ K mg ((x,st,ps) :: r) :=
 ⟨⟨(f,_),Dk l c k,hb _ _ _ _ _ _,Lj X G a⟩,hr⟩
theorem BV (a0:Addr×FuncData):∀ {l:List (Str×Stmt×List Str)},zJ K mg l->∃ f:Nat->Addr×FuncData,∀ i {x st ps},l[i]?=some (x,st,ps)->Fa K mg x st ps (f i)
 | [],_=>⟨fun _=>a0,fun i x st ps h=>by cases h⟩
 | (y,st,ps) :: r,⟨⟨a,ha⟩,hr⟩=>by
  obtain ⟨f,hf⟩:=BV a0 hr;refine ⟨fun i=>i.casesOn a f,fun i x st ps h=>?_⟩;cases i with
  | zero=>cases h;exact ha
  | succ i=>exact hf i h
theorem Ib {e:Str×Stmt×List Str} {l:List (Str×Stmt×List Str)} (D:zJ K mg (e :: l)):∃ f:Nat->Addr×FuncData,∀ i {x st ps},(e :: l)[i]?=some (x,st,ps)->Fa K mg x st ps (f i):=by
 obtain ⟨y,st,ps⟩:=e;have ⟨⟨a,_⟩,_⟩:=D;exact BV a D
end
theorem us1 {P:List Value->Prop} (h:∀ a,P [a]):∀ us:List Value,us.length=1->P us
 | [a],_=>h a
theorem us2 {P:List Value->Prop} (h:∀ a b,P [a,b]):∀ us:List Value,us.length=2->P us
 | [a,b],_=>h a b
theorem us3 {P:List Value->Prop} (h:∀ a b c,P [a,b,c]):∀ us:List Value,us.length=3->P us
 | [a,b,c],_=>h a b c
theorem us4 {P:List Value->Prop} (h:∀ a b c d,P [a,b,c,d]):∀ us:List Value,us.length=4->P us
 | [a,b,c,d],_=>h a b c d
theorem scm {N P:List Str} {sc:Scope} (a:sc.kind=.function:=by exact rfl) (b:sc.isCoroutine=false:=by exact rfl) (c:sc.isGenerator=false:=by exact rfl) (d:N.Nodup:=by decide +kernel) (e:N.take P.length=P:=by exact rfl) (f:∀ x∈P,sc.names.lookup x=some .local\/sc.names.lookup x=some .cell:=by decide +kernel) (g:∀ y∈sc.names,y.2≠.free:=by decide +kernel):ag N P sc:=⟨a,b,c,d,e,f,g⟩
theorem Fa.ok {P:Program} {w:World} {K:Fg} {mg:Str->Option Value} {base:Heap} {x:Str} {st:Stmt} {a:Addr×FuncData} {N ps:List Str} {k:Nat} {b:XS} {gd:List PyData} {ga:Nat->V} {ms:List PM}
  (D:Fa K mg x st ps a) (S:ag N ps (aa st)) (hg:∀ g d,gd[g]?=some d->∀ F H,Dm K F H d (ga g))
  (j:∀ {cdv:Value} {A:Around} {outer:List Env} {s:Shared} {H:Hp} {E:XK},cq k (A.deeper (envOfC x (aa st) s.heap.objs.size a.1 cdv))->JSs (md CX0 P w K mg base N x (aa st) a.1 cdv A outer s H E).nox (bE st) (rS K ga b))
  (hl:ms.length<=N.length:=by decide) (hp:ms.length=ps.length:=by exact rfl):br P w K mg base CX0 (k+1) a.1 a.2 ps (cE (cM gd ms N.length b) K) :=
 D.F.okX S hg rfl j hl hp
section
variable {X:Cx} {x:Str} {p p2 pos pos':Pos} {e a b:Expr} {es:List Expr} {t:TA} {te ta tb:TE} {ps:List Str} {sp:Sp} {k m i:Nat} {r:List V->Hp->VK->Prop} {T:String} {st:Stmt} {q:Addr×FuncData}
theorem eCx (F:br X.prog X.w X.K X.mg X.base CX0 k q.1 q.2 ps sp) (hr:cq m X.A) (D:Fa X.K X.mg x st ps q) (ha:JA X (e :: es) t)
  (a:k<=m:=by omega) (b:Gl X x:=by exact rfl) (h1:PySem.W.isStarred e=false:=by exact rfl) (h2:es.all (fun e=>!PySem.W.isStarred e)=true:=by exact rfl) (c:(x==("__debug__" : Str))=false:=by exact rfl):JE X (.Call (.Name x p) (e :: es) [] pos) (j5 sp [] E0 t) :=
 Cj F (hr.mono a) b D.m D.F.kp D.b .nil xR ha h1 h2 c
theorem eAx (ha:JE X e te) (hr:JA X es t) (h:PySem.W.isStarred e=false:=by exact rfl):JA X (e :: es) (aR te t):=eA ha hr h
theorem eIy (ha:JE X a ta) (hb:JE X b tb) (hs:mP b:=by exact fun _ _=>rfl):JE X (.Subscript a b pos) (tOp (fun x y=>ixP.r X.K [x,y]) ta tb):=eIx m8 ha hb hs
theorem eSx (hN:X.N.Nodup) (i:Nat) (he:JE X e te) (hi:X.N[i]?=some x:=by exact rfl) (hx:Loc X.env.scope x:=by exact .inl rfl) (hs:swapsWith e (some (.Name x pos')) pos.line X.env=pure false:=by exact rfl) (hf:X.fn x=true\/X.env.scope.names.lookup x=some .local:=by exact .inl rfl) :
  JS X (.Assign [.Name x pos'] e pos) (kN te (bQ i)):=AM he hN hi hx hs hf
theorem eSy (hN:X.N.Nodup) (i:Nat) (he:JE X e te) (hi:X.N[i]?=some x:=by exact rfl) (hx:Loc X.env.scope x:=by exact .inr rfl) (hs:swapsWith e (some (.Name x pos')) pos.line X.env=pure false:=by exact rfl) (hf:X.fn x=true\/X.env.scope.names.lookup x=some .local:=by exact .inl rfl) :
  JS X (.Assign [.Name x pos'] e pos) (kN te (bQ i)):=AM he hN hi hx hs hf
theorem eGx (hN:X.N.Nodup) (i:Nat) (hi:X.N[i]?=some x:=by exact rfl) (hx:Loc X.env.scope x:=by exact .inl rfl) (hf:X.fn x=true\/X.env.scope.names.lookup x=some .local:=by exact .inl rfl):JG X (.Name x pos) (bQ i):=eGN hN hi hx hf
theorem eTx {op:CmpOp} {r:R2} (ho:OpR X (compareOp op) r) (ha:JE X a ta) (hb:JE X b tb) (hm:behindInMarks op b=false:=by exact eE _):JT X (.Compare a [op] [b] pos) (mQ (tOp r ta tb)):=yY ho ha hb hm
theorem eUx (h:JE X e te) (he:∀ whole,isTrue e X.env whole=(do let v<-whole;standAt e.pos;holding [v] (truthy v)):=by exact fun _=>rfl):JT X e (tB te):=IL h he
theorem eIz (hm:X.mg "isinstance" = none) (ha:JE X e te) (hz:X.mg (Str.ofString T)=none) (hg:Gl X "isinstance" := by exact rfl) (hs:PySem.W.isStarred e=false:=by exact rfl)
  (h1:Gl X (Str.ofString T):=by exact rfl) (h2:bootBuiltins (Str.ofString T)=some (.type T):=by decide +kernel) (h3:Str.ofString T ≠ "__name__" := by decide) (h4:(Str.ofString T==("__debug__" : Str))=false:=by exact rfl):JE X (.Call (.Name "isinstance" p) [e,.Name (Str.ofString T) p2] [] pos) (tCB ((lQ T).r X.K) (aR te gp)) :=
 IQ hg hm ha hs (Ec h1 hz h2 rfl h3 h4)
theorem eFx {iter tg:Expr} {body:List Stmt} {wi:TI} {g:TG} {tb:TS} (hi:JI X tg iter wi) (hg:JG X tg g) (hb:JSs X body tb) (hp:PassesOwn (model X.prog X.w) X.A X.env X.xe:=by exact PassesOwn.never) (hc:X.calm=true:=by exact rfl) (hs:∀ x,foldedSetIterable iter X.env x=pure x:=by exact fun _=>rfl):JS X (.For tg iter body [] pos) (A3 wi g tb):=Iw hi hg hb hp hc hs
theorem eUy (ha:JE X a ta):JE X (.UnaryOp .USub a pos) (tCB (HP.r X.K) (aR ta gp)):=eUn DE ha
theorem eKx {elt iter:Expr} {px:Pos} {ifs:List Expr} {scope:Scope} {wi:TI} {tt:TT} {js:List Nat} (ys:List Str) (hi:JI X (.Name x px) iter wi) (ht:JTs X (x :: ys) scope ifs tt) (he:JC X (x :: ys) scope elt te) (B:fK X scope x) (cap:eH X scope ys js)
  (hc:X.calm=true:=by exact rfl) (nd:(x :: ys).Nodup:=by decide +kernel) (hs:∀ x,foldedSetIterable iter X.env x=pure x:=by exact fun _=>rfl):JE X (.ListComp elt [⟨.Name x px,iter,ifs,0⟩] scope pos) (oI js wi tt te):=FV ys hi ht he hc B nd cap hs
end
abbrev vr (i:Nat):XE:=.var i
abbrev ci (i:Int):XE:=.cst (.i i)
abbrev cs (x:String) (h:(Str.ofString x).length<=sizeLine:=by decide +kernel):XE:=.cst (.s x h (uz x))
abbrev p1 (p:Prm) (a:XE):XE:=.prm p (.cons a .nil)
abbrev p2 (p:Prm) (a b:XE):XE:=.prm p (.cons a (.cons b .nil))
open PySem PySem.Spec PyProof.Rows
section
variable {prog:Program} {w:World} {A:Around} {E:Value->Shared->Prop} {h:Heap} {g:Array GenState} {d:Drawn} {t:Nat} {os:OsState} {a:Addr} {o:Obj}
 {nm q:Str} {C N:Addr} {bs bm bmB:List Value} {hdct:Bool} {sn:List Str} {sub:List Value} {ab:Bool} {col:Option Bool} {dd:Option Addr} {k0 k1 k2 k3 k5:Option Value} {B newId:String} {K:Fg}
theorem vv {R:Result->Shared->Prop} (hC:h.get? C=some (excClassObj nm q C N bs bm hdct sn sub ab col dd k0 k1 k2 k3 k5 newId)) (hb:bm.contains (.type "object")=true)
  (hx:h.get? a=some o) (hc:o.cls=.ref C) (hq:R (.ok (.ret (.ref C))) ⟨h,g,d,t,os⟩) :
  codeAny (model prog w) A (.call (.builtin "getset_descriptor.__get__") ⟨[.builtin "object.__class__", .ref a,.ref C],[]⟩) R ⟨h,g,d,t,os⟩:=by
 have hT5:(⟨h,g,d,t,os⟩:Shared).TypeIs (.builtin "object.__class__") "getset_descriptor" := F.typeOf_object_class;have hcB:(Value.ref C :: bm).contains (.type (".".intercalate ("object.__class__".cutAt '.').dropLast))=true:=by
  rw [F.owner_object_class,List.contains_cons,hb,Bool.or_true]
 refine codeAny_call_builtin F.slot_gs_get.plain F.entry_gs_get (F.slot_gs_get.check _ _ _ _ _ _ _ _ hT5 (F.args_gs_get _ _ _) ?_)
 repeat (any_goals (first | assumption | (with_reducible refine Ln hx ?_;rw [hc]) | (with_reducible refine wpAny_isSubtype_exc hC ?_;rw [hcB]) | wp_step))
 refine ⟨Code.quiet_builtin _ (by decide +kernel),codeAny_builtin F.entry_object_class ?_⟩
 repeat (any_goals (first | assumption | (with_reducible refine Ln hx ?_;rw [hc]) | wp_step))
theorem pe {tk:Tok} {Q:Fin->Shared->Prop} (X:K.In h) (hcl:PySem.W.findIn K (.ref C) "__class__" = some (some (.builtin "object.__class__")))
  (hC:h.get? C=some (excClassObj nm q C N bs bm hdct sn sub ab col dd k0 k1 k2 k3 k5 newId)) (hb:bm.contains (.type "object")=true)
  (hx:h.get? a=some o) (hc:o.cls=.ref C) (hq:Q (.done (.ret (.ref C))) ⟨h,g,d,t,os⟩) :
  wpAny (model prog w) A (Builtin.«object.__getattribute__» ⟨[.ref a,.str "__class__" tk],[]⟩) Q E ⟨h,g,d,t,os⟩:=by
 have hT5:(⟨h,g,d,t,os⟩:Shared).TypeIs (.builtin "object.__class__") "getset_descriptor" := F.typeOf_object_class;have f5:=F.typeOf_object_class;have f6:=F.slot_gs_get.lookup;have f7:=F.slot_gs_set.lookup;have L1:=PySem.W.looks_findIn (M:=model prog w) X hcl
 repeat (any_goals (first | assumption | (with_reducible refine Ln hx ?_;rw [hc]) | with_reducible refine L1.at ?_ | wp_step))
 refine vv hC hb hx hc ?_
 repeat (any_goals (first | assumption | wp_step))
theorem pE {M:Model} {nameV:Value} {Q:Unit->Shared->Prop} (hC:h.get? C=some (excClassObj nm q C N bs bm hdct sn sub ab col dd k0 k1 k2 k3 k5 newId)) (hb:bm.contains (.type "BaseException")=true)
  (hx:h.get? a=some o) (hc:o.cls=.ref C) (hq:Q () ⟨h,g,d,t,os⟩):wpAny M A (checkBuiltinCall "BaseException.__getattribute__" ⟨[.ref a,nameV],[]⟩) Q E ⟨h,g,d,t,os⟩:=by
 have hk:builtinKind "BaseException.__getattribute__" = some .slot:=by decide +kernel
 have hsplit:splitId "BaseException.__getattribute__" = some ("BaseException", "__getattribute__"):=by decide +kernel
 have hcB:(Value.ref C :: bm).contains (.type "BaseException")=true:=by rw [List.contains_cons,hb,Bool.or_true]
 have ha:=F.args_bexc_ga (.ref a) nameV;simp only [checkBuiltinCall,hk,hsplit];refine Jp ?_
 ·unfold isInstance
  repeat (first | (with_reducible refine Ln hx ?_;rw [hc]) | (with_reducible refine wpAny_isSubtype_exc hC ?_;rw [hcB]) | wp_step)
  exact hq
theorem yc {tk:Tok} {fill expr:Bool} {Q:Value->Shared->Prop} (X:K.In h) (hcl:PySem.W.findIn K (.ref C) "__class__" = some (some (.builtin "object.__class__")))
  (hga:PySem.W.findIn K (.ref C) "__getattribute__" = some (some (.builtin "BaseException.__getattribute__"))) (hgg:PySem.W.findIn K (.ref C) "__getattr__" = some none)
  (hC:h.get? C=some (excClassObj nm q C N bs bm hdct sn sub ab col dd k0 k1 k2 k3 k5 newId)) (hb:bm.contains (.type "object")=true) (hb2:bm.contains (.type "BaseException")=true)
  (hx:h.get? a=some o) (hc:o.cls=.ref C) (hq:Q (.ref C) ⟨h,g,d,t,os⟩) :
  wpAny (model prog w) A (getAttrBy (.ref a) (.str "__class__" tk) fill expr) Q E ⟨h,g,d,t,os⟩:=by
 have f3:=F.excAttr_ValueError.ga.bind (.ref a);have hx0:(expr&&onTheHeap (Value.builtin "BaseException.__getattribute__"))=false:=by cases expr <;> rfl
 have hx2:(Value.builtin "BaseException.__getattribute__" == Value.builtin "object.__getattribute__")=false:=by decide +kernel
 have hx1:(onTheHeap (Value.ref C)&&Value.builtin "BaseException.__getattribute__" == Value.builtin "object.__getattribute__")=false:=by rw [hx2];rfl
 have L1:=PySem.W.looks_findIn (M:=model prog w) X hga;have L2:=PySem.W.looks_findIn (M:=model prog w) X hgg
 repeat (any_goals (first | assumption | (with_reducible refine Ln hx ?_;rw [hc]) | with_reducible refine L1.at ?_ | with_reducible refine L2.at ?_ | wp_step))
 refine codeAny_call_builtin F.excAttr_ValueError.ga.plain F.entry_bexc_ga (pE hC hb2 hx hc (pe X hcl hC hb hx hc ?_))
 repeat (any_goals (first | assumption | wp_step))
theorem su {Q:Option Value->Shared->Prop} (X:K.In h) (hcl:PySem.W.findIn K (.ref C) "__class__" = some (some (.builtin "object.__class__")))
  (hga:PySem.W.findIn K (.ref C) "__getattribute__" = some (some (.builtin "BaseException.__getattribute__"))) (hgg:PySem.W.findIn K (.ref C) "__getattr__" = some none)
  (hC:h.get? C=some (excClassObj nm q C N bs bm hdct sn sub ab col dd k0 k1 k2 k3 k5 newId)) (hb:bm.contains (.type "object")=true) (hb2:bm.contains (.type "BaseException")=true)
  (hx:h.get? a=some o) (hc:o.cls=.ref C) (hq:Q (some (.ref C)) ⟨h,g,d,t+1,os⟩) :
  wpAny (model prog w) A (getAttr? (.ref a) "__class__") Q E ⟨h,g,d,t,os⟩:=by
 unfold getAttr? getAttrBy?
 repeat (any_goals (first | assumption | with_reducible apply yc X hcl hga hgg hC hb hb2 hx hc | wp_step))
theorem Af {M:Model} {e D:Addr} {oe:Obj} {b:Bool} {Q:Bool->Shared->Prop}
  {nm' q':Str} {N':Addr} {bs' bm':List Value} {hdct':Bool} {sn':List Str} {sub':List Value} {ab':Bool} {col':Option Bool} {dd':Option Addr} {k0' k1' k2' k3' k5':Option Value} {newId':String}
  (hC:h.get? C=some (excClassObj nm q C N bs bm hdct sn sub ab col dd k0 k1 k2 k3 k5 newId)) (hD:h.get? D=some (excClassObj nm' q' D N' bs' bm' hdct' sn' sub' ab' col' dd' k0' k1' k2' k3' k5' newId'))
  (he:h.get? e=some oe) (hcls:oe.cls=.ref C) (hbase:bm'.contains (.type "BaseException")=true) (hm:(Value.ref C :: bm).contains (.ref D)=b)
  (hq:Q b ⟨h,g,d,t,os⟩):wpAny M A (excMatches (.ref e) (.ref D)) Q E ⟨h,g,d,t,os⟩:=by
 have hcB:(Value.ref D :: bm').contains (.type "BaseException")=true:=by rw [List.contains_cons,hbase,Bool.or_true]
 have f:=tc_notTuple;unfold excMatches
 repeat (first | (with_reducible refine Ln he ?_;rw [hcls]) | with_reducible refine Ln hD ?_ | (with_reducible refine wpAny_isSubtype_exc hD ?_;rw [hcB]) | (with_reducible refine wpAny_isSubtype_exc hC ?_;rw [hm]) | wp_step)
 cases b <;> first | exact hq | (wp_walk;exact hq)
end
structure iP (K:Fg) (C:Addr):Prop where
 ex:PySem.W.excIn K C [.type "ValueError", .type "Exception", .type "BaseException", .type "object"] "ValueError.__new__" = true
 cl:PySem.W.findIn K (.ref C) "__class__" = some (some (.builtin "object.__class__"))
 ga:PySem.W.findIn K (.ref C) "__getattribute__" = some (some (.builtin "BaseException.__getattribute__"))
 gg:PySem.W.findIn K (.ref C) "__getattr__" = some none
abbrev bmV:List Value:=[.type "ValueError", .type "Exception", .type "BaseException", .type "object"]
theorem iP.own {K:Fg} {C:Addr} {h:Heap} (x:iP K C) (X:K.In h):∃ bm N nm q bs hdct sn sub ab col dd k0 k1 k2 k3 k5 mN,h.get? C=some (excClassObj nm q C N bs bm hdct sn sub ab col dd k0 k1 k2 k3 k5 "ValueError.__new__")/\h.Ns N mN/\mN "__init__" = none/\OwnTail h bmV bm /\
  ∃ cd,PySem.W.clsIn K C=some cd/\cd.mro=.ref C :: bm:=by
 have q:=x.ex;unfold PySem.W.excIn at q;split at q
 ·rename_i dd cd sl ho;split at q
  ·rename_i C' bm k0 k1 k2 k3 n k5 hm hs;simp only [Kl,Kg,Lo] at q;obtain ⟨⟨⟨⟨⟨rfl,rfl⟩,hdel⟩,ht⟩,hok⟩,hni⟩:=q;have hci:PySem.W.clsIn K C'=some cd:=by unfold PySem.W.clsIn;rw [ho]
   obtain ⟨nm,bs,mro,ns,qn,hd,sn,sub,ab,col,del⟩:=cd;dsimp only at hm hdel hok hni;subst hm hdel;have hsl:sl=#[k0,k1,k2,k3,some (.builtin "ValueError.__new__"),k5]:=by
    obtain ⟨l⟩:=sl;simp only at hs;rw [hs]
   subst hsl;exact ⟨bm,ns,nm,qn,bs,hd,sn,sub,ab,col,dd,k0,k1,k2,k3,k5,_,X _ _ ho,.of_isNs (PySem.W.isNs_of_in X hok),PySem.W.nsMap_none_of_in X hok hni,PySem.W.tail_of_in X ht,_,hci,rfl⟩
  ·cases q
 ·cases q
theorem uQ {K:Fg} {C a:Addr} (x:iP K C):PySem.W.KitX K (.ref a) (.ref C) (fun h=>∃ o,h.get? a=some o/\o.cls=.ref C) where
 ty:=fun M h _ p=>by
  obtain ⟨o,h1,h2⟩:=p;exact h2▸(PySem.W.Looks.ld h1).andThen .now
 it:=fun M h X _=>by
  obtain ⟨bm,N,nm,q,bs,hdct,sn,sub,ab,col,dd,k0,k1,k2,k3,k5,mN,hC,_⟩:=x.own X;intro A' Q' E' s' k q;unfold isType loadHead;exact Jp (wpAny_loadPart (k _ _ hC) (Jw q))
 ne:=fun h tp dd its n sl X htp=>by
  refine Bool.eq_false_iff.mpr fun q=>?_;have e:C=tp:=Value.ref.inj (Kg.mp q);subst e;obtain ⟨bm,N,nm,q,bs,hdct,sn,sub,ab,col,dd,k0,k1,k2,k3,k5,mN,hC,_⟩:=x.own X;have z:=congrArg Obj.data (Km (hC.symm.trans htp));cases z
 ca:=fun {prog w A E Q s} X p k=>by
  obtain ⟨h,g,d,t,os⟩:=s;obtain ⟨o,h1,h2⟩:=p;obtain ⟨bm,N,nm,q,bs,hdct,sn,sub,ab,col,dd,k0,k1,k2,k3,k5,mN,hC,_,_,T,_⟩:=x.own X;exact su X x.cl x.ga x.gg hC (T.hasType rfl) (T.hasType rfl) h1 h2 k
open PySem PySem.Spec PyProof.Rows
theorem aQ.got {P:Program} {w:World} {H:Hp} {h:Heap} {a:Addr} {o:HO} (x:aQ P w H h a o):∃ ob,h.get? a=some ob:=by
 cases o with
 | lst xs=>obtain ⟨_,_,_,_,e⟩:=x;exact ⟨_,e⟩
 | tup xs=>obtain ⟨_,_,_,ob,e,_⟩:=x;exact ⟨_,e⟩
 | dK kvs=>obtain ⟨_,_,_,_,o,_,_,e,_⟩:=x;exact ⟨_,e⟩
 | dT kvs=>obtain ⟨_,_,_,_,o,_,_,e,_⟩:=x;exact ⟨_,e⟩
 | dD ep xs=>obtain ⟨_,_,_,o,_,e,_⟩:=x;exact ⟨_,e⟩
 | set S n=>obtain ⟨o,_,_,_,e,_⟩:=x;exact ⟨_,e⟩
 | ins C dx fs=>obtain ⟨_,_,_,e,_⟩:=x;exact ⟨_,e⟩
 | own y=>exact x
 | xd fs=>obtain ⟨_,⟨_,_,_,e,_⟩,_⟩:=x;exact ⟨_,e⟩
 | rng lo hi=>obtain ⟨_,_,_,e⟩:=x;exact ⟨_,e⟩
 | frz ob u=>exact ⟨_,x.1⟩
 | tbl ps=>exact ⟨_,x⟩
 | met f y=>exact ⟨_,x⟩
 | ext φ=>exact x.2.1
theorem eo {h b0 b1:Heap}:∀ {l:List Env},h.FunFrames b0 l->(∀ L∈frs l,b1.get? L=none)->h.FunFrames b1 l
 | [],_,_=>trivial
 | env :: rest,⟨hk,⟨L,o,hf,hn,ho,hd⟩,hr⟩,k=>by
  refine ⟨hk,⟨L,o,hf,k L ?_,ho,hd⟩,eo hr fun L' h'=>k L' ?_⟩
  ·unfold frs;rw [Lc,hf];exact Jy
  ·unfold frs at h' ⊢;rw [Lc,hf];exact JJ _ h'
def CX1 (P:Program) (w:World):CXT:=fun outer H s E e s2=>∃ (ea C t:Addr) (H':Hp) (b:Heap),e=.ref ea/\s2.os=s.os/\AllBare s2.gens/\Un (frs outer) [] H H' s.heap s2.heap /\
 (∀ c o,s.heap.get? c=some o->c ∉ frs outer->∃ o',b.get? c=some o')/\HOk P w H' b/\Heap.FlyingW b outer ea (.ref C) (.ref t) s2.heap/\E (.ref C) none H'
theorem vY {outer:List Env} {H H':Hp} {h h2 h3 b b0:Heap} (u:Un (frs outer) [] H H' h h2) (k:∀ c o,h.get? c=some o->c ∉ frs outer->∃ o',b.get? c=some o') (st:b.StaysIn h2) (st3:b.StaysIn h3) (sl:h2.UpToSlots h3)
  (ff:h2.FunFrames b0 outer) (fr:∀ c∈frs outer,H c=none):Un (frs outer) [] H H' h h3 where
 keep:=fun c o e n hc hx=>by
  obtain ⟨o',q⟩:=k c o e hc;have z:=u.keep c o e n hc hx;rw [st c o' q] at z;cases z;exact st3 c _ q
 slot:=fun c o e n hc hx=>by
  obtain ⟨s1,z⟩:=u.slot c o e n hc hx;obtain ⟨_,o2,e2,d2⟩:=ff.mem hc;rw [z] at e2;cases e2;obtain ⟨s2,z2⟩:=sl c _ z d2;exact ⟨s2,z2⟩
 free:=u.free
 there:=fun c o e hx=>by
  by_cases hc:c∈frs outer
  ·obtain ⟨s1,z⟩:=u.slot c o e (fr c hc) hc hx;obtain ⟨_,o2,e2,d2⟩:=ff.mem hc;rw [z] at e2;cases e2;obtain ⟨s2,z2⟩:=sl c _ z d2;exact ⟨_,z2⟩
  ·obtain ⟨o',q⟩:=k c o e hc;exact ⟨o',st3 c o' q⟩
 oH:=u.oH
 oh:=u.oh
 pR:=u.pR
section
variable {X:Cx} {pins:List (Addr×Obj)} {σ:St} {H:Hp} {s:Shared} {x:Str} {C:Addr} {e0:Expr} {rest:List Expr} {t:TA} {np cpos pos:Pos} {EW:Hp->Prop} {Q:Flow->Shared->Prop}
theorem vC (xc:iP X.K C) (hg:Gl X x) (hm:X.mg x=some (.ref C)) (hh:X.A.handled=none) (ha:PA X (e0 :: rest) t) (I:Inv X pins σ H s) (ht:t σ H fun vs H1=>vs.length<=sizeLine/\EW H1)
  (hE:∀ s1 H1 us h' e,Inv X pins σ H1 s1->EW H1->Heap.MadeExcOf s1.heap h' e (.ref C) us->X.xe (.ref e) { s1 with heap:=h' })
  (he:starEach (e0 :: rest) X.env=(false,eval e0 X.env) :: starEach rest X.env) (hp:(backTo cpos (starEach rest X.env)).any (·.1)=false) (hd:(x==("__debug__" : Str))=false:=by decide) :
  wpAny (model X.prog X.w) X.A (exec (.Raise (some (.Call (.Name x np) (e0 :: rest) [] cpos)) none pos) X.env) Q X.xe s:=by
 obtain ⟨tl,N,nm,q,bs,hdct,sn,sub,ab,col,dd,k0,k1,k2,k3,k5,mN,hC,hN,hni,T,_⟩:=xc.own I.ok.mod.kin;refine wpAny_Raise_call_subT (C:=C) (nm:=nm) (q:=q) (N:=N) (bs:=bs) (bm:=tl) (hdct:=hdct) (sn:=sn) (sub:=sub) (ab:=ab) (col:=col) (dd:=dd) (k0:=k0) (k1:=k1) (k2:=k2) (k3:=k3) (k5:=k5)
  PySem.F.excBase_ValueError (mN:=mN) (T.hasType PySem.F.excBase_ValueError.hasBase) hh (by rw [he];show (false||(backTo cpos (starEach rest X.env)).any (·.1))=false;rw [hp];rfl) hni (jQ I hg hm ⟨rfl,?_⟩ hd)
 have h:=ha cpos pins s σ H _ I ht;rw [he] at h ⊢;refine Calls.evalArgs_plain (Ke h (fun us s1 z=>?_) fun _ _ y=>y);obtain ⟨vs,H1,I1,r,z,ew⟩:=z;have kp:∀ b o,X.base.get? b=some o->s1.heap.get? b=some o:=I1.bk;exact ⟨rfl,by rw [<- r.length];exact z,kp _ _ hC,hN.keeps kp,T.keeps kp,fun h' e hx=>hE s1 H1 us h' e I1 ew hx⟩
end
theorem xB {P:Program} {w:World} {K:Fg} {mg:Str->Option Value} {base:Heap} {N:List Str} {qual:Str} {scope:Scope} {f:Addr} {cd:Value} {A:Around} {outer:List Env} {s:Shared} {H:Hp} {E:XK}
  {pins:List (Addr×Obj)} {σ:St} {H1:Hp} {s1:Shared} {h':Heap} {e C:Addr} {us:List Value}
  (I:Inv (md (CX1 P w) P w K mg base N qual scope f cd A outer s H E) pins σ H1 s1) (ew:E (.ref C) none H1) (hx:Heap.MadeExcOf s1.heap h' e (.ref C) us) :
  (md (CX1 P w) P w K mg base N qual scope f cd A outer s H E).xe (.ref e) { s1 with heap:=h' }:=by
 have hst:(PySem.W.hideAll s1.heap (frs (envOfC qual scope s.heap.objs.size f cd :: outer))).StaysIn s1.heap:=fun b o q=>PySem.W.of_hideAll _ q;have ff:s1.heap.FunFrames (PySem.W.hideAll s1.heap (frs (envOfC qual scope s.heap.objs.size f cd :: outer))) (envOfC qual scope s.heap.objs.size f cd :: outer) :=
  eo I.stack fun L hL=>PySem.W.hideAll_none _ hL
 have nfr:∀ c,c∈frs (envOfC qual scope s.heap.objs.size f cd :: outer)->c=s.heap.objs.size\/c∈frs outer:=fun c hc=>by
  have q:=I.kM c hc;rcases JV.mp q with z | z
  ·exact .inl z
  ·exact .inr z
 have U:Un (frs outer) [] H H1 s.heap s1.heap:=I.base;have frf:∀ c∈frs outer,H c=none:=I.ok.frf;have inB:∀ c o,s.heap.get? c=some o->c ∉ frs outer->∃ o',(PySem.W.hideAll s1.heap (frs (envOfC qual scope s.heap.objs.size f cd :: outer))).get? c=some o':=fun c o q hc=>by
  obtain ⟨o',q'⟩:=U.there c o q (by simp);refine ⟨o',PySem.W.hideAll_get _ q' fun z=>?_⟩;rcases nfr c z with z | z
  ·exact absurd (JX q) (by rw [z];exact Kr _)
  ·exact hc z
 refine wpAny_leaves_madeW (h:=s1.heap) I.ok.frames rfl hst ff hx fun h2 t fl tu tn sl=>?_;refine ⟨e,C,t,H1,_,rfl,I.os,I.bare,?_,inB,fun c o q=>?_,fl,ew⟩
 ·exact vY U inB hst fl.1 ((Heap.UpToSlots.of_keeps hx.keeps).trans sl) I.l8 frf
 ·refine (I.hok c o q).j9 (fun b u hb r=>PySem.W.hideAll_get _ r fun z=>?_) (fun _ r=>r) fun _ _ r=>r;have fr:=I.jy b z;rcases hb with rfl | hb
  ·rw [q] at fr;cases fr
  ·rw [hb] at fr;cases fr
def Q1 (E:XK) (C:Addr) (Q:VK):VK:=fun v H=>(v=.non->E (.ref C) none H)/\(v≠.non->Q v H)
def Lets (X:Cx) (E:XK) (C:Addr):Prop:=∀ (pins:List (Addr×Obj)) (σ:St) (H1:Hp) (s1:Shared) (h':Heap) (e:Addr) (us:List Value),Inv X pins σ H1 s1->E (.ref C) none H1->Heap.MadeExcOf s1.heap h' e (.ref C) us->X.xe (.ref e) { s1 with heap:=h' }
section
variable {P:Program} {w:World} {K:Fg} {mg:Str->Option Value} {base:Heap}
theorem g5 {N:List Str} {qual:Str} {scope:Scope} {f C:Addr} {cd:Value} {A:Around} {outer:List Env} {s:Shared} {H:Hp} {E:XK}:Lets (md (CX1 P w) P w K mg base N qual scope f cd A outer s H E) E C :=
 fun pins σ H1 s1 h' e us I ew hx=>xB I ew hx
end
open PySem PySem.Spec PyProof.Rows
abbrev Xs (X:Cx) (ea:Addr) (oe:Obj) (n:Str):Cx:={ X with A:=X.A.mark (some (.ref ea)),calm:=false,pn:=(ea,oe) :: X.pn,N:=X.N++[n],xe:=fun _ _=>False }
section
variable {X:Cx} {pins:List (Addr×Obj)} {σ:St} {H H':Hp} {s s2:Shared} {ea:Addr} {oe:Obj} {n:Str}
theorem Cx.Ok.iw (ok:X.Ok):(Xs X ea oe n).Ok :=
 ⟨ok.mod,ok.kind,ok.glob,ok.blt,ok.above,ok.inj,ok.has,ok.cab,fun z=>(by cases z),ok.frames,ok.stk,ok.exf,ok.bs,ok.bsz,ok.wQ,ok.zh,ok.l8,ok.frf⟩
theorem Inv.iw (I:Inv X pins σ H s) (h1:s.heap.get? ea=some oe) (h2:H ea=none) (h3:ea≠X.env.locals) (h4:ea ∉ X.fs) (h5:∀ v,oe.data≠.cell v):Inv (Xs X ea oe n) pins (σ++[none]) H s:=by
 refine ⟨I.ok.iw,I.os,I.bare,I.base,?_,I.cell,I.free,I.dU,fun p hp=>?_,I.hok,?_⟩
 ·obtain ⟨m,hn,hl⟩:=I.loc;refine ⟨m,hn,fun i x v e1 e2 e3=>?_⟩;by_cases hi:i < σ.length
  ·rw [JM hi] at e2;have e1:(X.N++[n])[i]?=some x:=e1;rw [JM (by rw [<- I.len];exact hi)] at e1;exact hl i x v e1 e2 e3
  ·rw [Jv (by omega)] at e2;cases q:i - σ.length with
   | zero=>rw [q] at e2;cases e2
   | succ k=>rw [q] at e2;cases e2
 ·have hp:p∈(ea,oe) :: (X.pn++pins):=hp;rcases JV.mp hp with z | z
  ·subst z;exact ⟨h1,h2,h3,h4,h5⟩
  ·exact I.pin p z
 ·show (σ++[none]).length=(X.N++[n]).length;rw [Jr,Jr,I.len];rfl
theorem oE {M:Model} {A:Around} {E:Value->Shared->Prop} {τ:St} {pos:Pos} {Q:Unit->Shared->Prop} (I:Inv (Xs X ea oe n) pins τ H s) (hl:X.env.kindOf n=some .local) (hn:n ∉ X.N)
  (h:∀ s',Inv X pins (τ.take X.N.length) H s'->Q () s') (ok:X.Ok):wpAny M A (do bindName X.env n .none;unbindBehindTheSuite X.env n pos) Q E s:=by
 obtain ⟨m,hns,hlo⟩:=id I.loc;have hcls:(X.env.scope.kind==.class||(X.env.scope.kind==.module&&X.env.locals != X.env.globals))=false:=by rw [ok.kind];rfl
 refine wpAny_nameGoes_keeps hl hns hcls fun h' v hn' hs=>h _ ?_;have ab:=ok.above;have neL:∀ b o,X.s₀.heap.get? b=some o->b≠X.env.locals:=fun b o e=>Kk (J4 (JX e) ab);have cne:∀ y c,X.env.cells.lookup y=some c->c≠X.env.locals:=I.cne;obtain ⟨oL,_,_,hoL,_⟩:=id hns;refine ⟨ok,I.os,I.bare,⟨fun b o e n hb hx=>?_,fun b o e n hb hx=>?_,I.base.free,fun b o e hx=>?_,I.base.oH,I.base.oh,I.base.pR⟩,⟨_,hn',fun j y v' e1 e2 e3=>?_⟩,fun y c e=>?_,I.free,I.dU,fun p hp=>?_,fun b ob e=>?_,?_⟩
 ·exact (hs.2 b (neL b o e)).trans (I.base.keep b o e n hb hx)
 ·obtain ⟨sl,e1⟩:=I.base.slot b o e n hb hx;exact ⟨sl,(hs.2 b (neL b o e)).trans e1⟩
 ·obtain ⟨o',e1⟩:=I.base.there b o e hx;exact ⟨o',(hs.2 b (neL b o e)).trans e1⟩
 ·have hj:j < X.N.length:=(Js.mp e1).1;rw [List.getElem?_take_of_lt hj] at e2;obtain ⟨u',r',q⟩:=hlo j y v' (show (X.N++[n])[j]?=some y by rw [JM hj];exact e1) e2 e3;have ne:y≠n:=fun z=>hn (z▸J5 e1);refine ⟨u',r',?_⟩;rcases q with ⟨k,e⟩ | ⟨k,c,e,z⟩
  ·exact .inl ⟨k,by simp [ne,e]⟩
  ·exact .inr ⟨k,c,e,z.sameBut hs (cne y c e)⟩
 ·obtain ⟨w',z⟩:=I.cell y c e;exact ⟨w',z.sameBut hs (cne y c e)⟩
 ·obtain ⟨e,n,ne,nf,d⟩:=I.pin p (JJ _ hp);exact ⟨(hs.2 p.1 ne).trans e,n,ne,nf,d⟩
 ·refine (I.hok b ob e).j9 (fun c w' hc q=>(hs.2 c ?_).trans q) (fun _ q=>q) fun _ _ q=>q;have fr:H X.env.locals=none:=I.free;rintro rfl;rcases hc with rfl | hc
  ·rw [fr] at e;cases e
  ·rw [fr] at hc;cases hc
 ·have q:τ.length=(X.N++[n]).length:=I.len;rw [Jr] at q;rw [Kp];have:[n].length=1:=rfl;omega
theorem mM {H1:Hp} {s1:Shared} {b h3:Heap} {t C:Addr} (I:Inv X pins σ H1 s1) (ho:s2.os=s1.os) (hb:AllBare s2.gens) (u:Un (frs X.stack) [] H1 H' s1.heap s2.heap)
  (k:∀ c o,s1.heap.get? c=some o->c ∉ frs X.stack->∃ o',b.get? c=some o') (hok:HOk X.prog X.w H' b) (fl:Heap.FlyingW b X.stack ea (.ref C) (.ref t) s2.heap) (st3:b.StaysIn h3) (sl:s2.heap.UpToSlots h3) :
  Inv X pins σ H' { s2 with heap:=h3 } :=
 I.Fv (s':={ s2 with heap:=h3 }) (ch:=[]) ho (vY u k fl.1 st3 sl fl.2.2.1 I.jy) (hok.kept st3) hb fun b z=>absurd z (by simp)
end
section
variable {X:Cx} {pins:List (Addr×Obj)} {σ:St} {H1 H':Hp} {s1 s2:Shared} {ea C D t:Addr} {n dn:Str} {b:Heap} {E:Value->Shared->Prop} {Q:Flow->Shared->Prop} {b0:Stmt} {iw:List Stmt} {np hp:Pos} {rest:List ExceptHandler} {env:Env}
theorem tS (he:X.env=env) (I:Inv X pins σ H1 s1) (ho:s2.os=s1.os) (hb:AllBare s2.gens) (u:Un (frs X.stack) [] H1 H' s1.heap s2.heap)
  (k:∀ c o,s1.heap.get? c=some o->c ∉ frs X.stack->∃ o',b.get? c=some o') (hok:HOk X.prog X.w H' b) (fl:Heap.FlyingW b X.stack ea (.ref C) (.ref t) s2.heap)
  (hst:X.stack=X.env :: X.outer) (hf:X.env.frame=some X.env.locals) (xC:iP X.K C) (xD:iP X.K D) (hm:PySem.W.mroIn X.K C (.ref D)=some true) (hg:Gl X dn) (hmg:X.mg dn=some (.ref D)) (hl:X.env.kindOf n=some .local) (hn:n ∉ X.N) (nd:X.N.Nodup)
  (hdb:(dn==("__debug__" : Str))=false)
  (go:∀ oe s3,oe.cls=.ref C->Inv (Xs X ea oe n) pins (σ++[some (.ref ea)]) H' s3->wpAny (model X.prog X.w) (X.A.mark (some (.ref ea))) (execs (b0 :: iw) env) (fun f s4=>f=.next/\∃ H4 τ pins4,Inv (Xs X ea oe n) pins4 τ H4 s4/\∀ s5,Inv X pins4 (τ.take X.N.length) H4 s5->Q .next s5) (fun _ _=>False) s3) :
  wpAny (model X.prog X.w) X.A (noteFrame (.ref ea) env) (fun _ s3=>wpAny (model X.prog X.w) X.A (setFlight (.ref ea) none) (fun _ s4 =>
   wpAny (model X.prog X.w) X.A (handleBy (.ref ea) env (.ExceptHandler (some (.Name dn np)) (some n) (b0 :: iw) hp :: rest)) Q E s4) E s3) E s2:=by
 subst he;have hfr:X.A.frames=some (X.env :: X.outer):=by rw [<- hst];exact I.ok.frames
 have fl':Heap.FlyingW b (X.env :: X.outer) ea (.ref C) (.ref t) s2.heap:=by rw [<- hst];exact fl
 refine wpAny_looks_onW hfr hf fl' fun h3 hd3 sl3=>?_;refine wpAny_landsW hd3 fun h4 fl4 sl4=>?_;have I4:=mM I ho hb u k hok fl fl4.1 (sl3.trans sl4);refine wpAny_handleBy_cons (codeAny_handlers_test ?_) (by intro q;cases q);have g4:∀ {Q':Value->Shared->Prop} {E':Value->Shared->Prop},Q' (.ref D) { s2 with heap:=h4 }->wpAny (model X.prog X.w) (X.A.mark (some (.ref ea))) (eval (.Name dn np) X.env) Q' E' { s2 with heap:=h4 }:=fun {Q' E'} z =>
  Calls.Name_function_global I4.ok.kind hg (Calls.loadGlobal_global (by rw [I4.ok.glob];exact I4.mod.glob.keeps I4.bk) hmg z) hdb
 refine g4 ?_;obtain ⟨ob,hob,hobc⟩:=fl4.there;have KX:X.K.In h4:=I4.kIn;obtain ⟨bm,N,nm,q,bs,hdct,sn,sub,ab,col,dd,k0,k1,k2,k3,k5,mN,hC,hN,hni,T,cd,hci,hmr⟩:=xC.own KX;obtain ⟨bm',N',nm',q',bs',hdct',sn',sub',ab',col',dd',k0',k1',k2',k3',k5',mN',hD,hN',hni',T',_⟩:=xD.own KX;have hct:(Value.ref C :: bm).contains (.ref D)=true:=by
  unfold PySem.W.mroIn at hm;rw [hci] at hm;have hm:(if cd.mro.isEmpty then none else some (cd.mro.contains (.ref D)))=some true:=hm;rw [hmr] at hm;exact Km hm
 refine Af hC hD hob hobc (T'.hasType rfl) hct (codeAny_handlers_suite_as ?_);refine lands_againW fl4 fun h6 fl6 sl6=>?_;have I6:=mM I ho hb u k hok fl fl6.1 ((sl3.trans sl4).trans sl6);obtain ⟨oe,ws,hoe,hoec,hoed,_⟩:=fl6.first;have hH:H' ea=none:=by
  cases z:H' ea with
  | none=>rfl
  | some o =>
   obtain ⟨ob,z⟩:=(hok ea o z).got;rw [fl6.2.1] at z;cases z
 have nfr:ea ∉ frs X.stack:=fun z=>by
  have fl6':Heap.FlyingW b X.stack ea (.ref C) (.ref t) h6:=by rw [hst];exact fl6
  obtain ⟨_,o2,e2,d2⟩:=fl6'.2.2.1.mem z;rw [hoe] at e2;cases e2;exact d2 _ hoed
 have nlo:ea≠X.env.locals:=fun z=>nfr (by
  rw [hst];unfold frs;rw [Lc,hf,z];exact Jy)
 have nfs:ea ∉ X.fs:=fun z=>nfr (by
  rw [hst];unfold frs;rw [Lc,hf];exact JJ _ z)
 have IS:Inv (Xs X ea oe n) pins (σ++[none]) H' { s2 with heap:=h6 }:=I6.iw hoe hH nlo nfs fun v z=>by rw [hoed] at z;cases z
 have hnN:(X.N++[n])[X.N.length]?=some n:=by simp
 have len:σ.length=X.N.length:=I.len;have set1:(σ++[none]).set X.N.length (some (V.ref ea))=σ++[some (.ref ea)]:=by
  rw [<- len,List.set_append_right _ _ (JH _)];simp
 have ndN:(X.N++[n]).Nodup:=by
  rw [Kf]
  exact ⟨nd,by simp,fun a ha c hc z=>hn (by
   have hc:c=n:=by simpa using hc
   rw [<- hc,<-z]
   exact ha)⟩
 refine gb (X:=Xs X ea oe n) IS ndN hnN (.inl hl) (v:=V.ref ea) rfl (fun s7 I7=>?_) (.inr hl);rw [set1] at I7;refine Ke (go oe s7 hoec I7) (fun f s8 z=>?_) fun _ _ z=>z.elim;obtain ⟨rfl,H4,τ,pins4,I8,fin⟩:=z;exact oE I8 hl hn (fun s9 I9=>fin s9 I9) I6.ok
end
open PySem PySem.Spec PyProof.Rows
theorem Inv.Hw {X:Cx} {pins:List (Addr×Obj)} {σ:St} {H:Hp} {s:Shared} {j:Nat} {y:Str} {v:Option V} (I:Inv X pins σ H s) (hj:X.N[j]?=some y) (hy:¬Vis X.env.scope y):Inv X pins (σ.set j v) H s:=by
 obtain ⟨m,hn,hl⟩:=I.loc;refine ⟨I.ok,I.os,I.bare,I.base,⟨m,hn,fun i x w e1 e2 e3=>?_⟩,I.cell,I.free,I.dU,I.pin,I.hok,by rw [J8];exact I.len⟩;by_cases e:i=j
 ·subst e;rw [hj] at e1;cases e1;exact absurd e3 hy
 ·rw [Ju (Ne.symm e)] at e2;exact hl i x w e1 e2 e3
open PySem PySem.Spec PyProof.Rows
def rX (K:Fg) (ea C:Addr):List V->Hp->VK->Prop:=fun vs H Q=>∃ c cv b,vs=[.ref ea,c]/\(∀ u,RelV c u->u=cv)/\PySem.W.kitOne K (.ref C) cv=some b/\Q (.bl b) H
section
variable {X:Cx} {ea C:Addr} {oe:Obj} {n:Str}
theorem Ep (xC:iP X.K C) (oc:oe.cls=.ref C):aJ (Xs X ea oe n) (.builtin "isinstance") (rX X.K ea C):=by
 intro pins s σ H xs us Q I r h;obtain ⟨c,cv,b,rfl,hc,hk,hq⟩:=h;cases r with
 | cons r1 rr =>
  cases rr with
  | cons r2 r3 =>
   cases r3;cases (show _=Value.ref ea from r1);cases hc _ r2;have hp:=I.pin (ea,oe) Jy;exact Li (uQ xC) I.kIn ⟨oe,hp.1,oc⟩ hk (fun z=>nomatch z) fun tk=>⟨.bl b,H,I.tok tk,rfl,hq⟩
theorem isX {A:Expr} {c:V} {p p2 pos:Pos} (xC:iP X.K C) (oc:oe.cls=.ref C) (hg:Gl X "isinstance") (hmi:X.mg "isinstance" = none) (hl:X.env.kindOf n=some .local) (hdn:(n==("__debug__" : Str))=false) (hcn:(n==("__classdict__" : Str))=false)
  (hA:PE (Xs X ea oe n) A (tC c)) (hs:PySem.W.isStarred A=false):PE (Xs X ea oe n) (.Call (.Name "isinstance" p) [.Name n p2,A] [] pos) (tCB (rX X.K ea C) (aR (kX X.N.length) (aR (tC c) gp))) :=
 n6 (Ep xC oc) hg hmi (by decide +kernel) (jC (wY (by show (X.N++[n])[X.N.length]?=some n;simp) (.inl hl) hdn hcn) (jC hA qd (ao hs)) (ao rfl)) (by decide) rfl (ao rfl) (bC (by simp [hs]))
end
theorem uJ {f:Fn} {K:Fg} {vs:List V} {H:Hp} {Q Q':VK} {E E':XK} (h:cE f K vs H Q E) (k:∀ v H',Q v H'->Q' v H'):cE f K vs H Q' E':=by
 obtain ⟨G,ds,is,pr,outs,h1,h2,h3,h4⟩:=h;exact ⟨G,ds,is,pr,outs,h1,h2,h3,fun v H' a b=>k _ _ (h4 v H' a b)⟩
open PySem PySem.Spec PyProof.Rows
theorem cI {K:Fg} {C B:Addr} (x:iP K C) (y:iP K B) (h:PySem.W.mroIn K C (.ref B)=some false):PySem.W.kitOne K (.ref C) (.ref B)=some false:=by
 have mro:∀ {D:Addr},iP K D->∃ cd bm,PySem.W.clsIn K D=some cd/\cd.mro=.ref D :: bm/\PySem.W.typeIn K (.ref D)=some (.type "type"):=fun {D} z=>by
  have q:=z.ex;unfold PySem.W.excIn at q;split at q
  ·rename_i dd cd sl ho;split at q
   ·rename_i C' bm k0 k1 k2 k3 n k5 hm hs;simp only [Kl,Kg,Lo] at q;obtain ⟨⟨⟨⟨⟨rfl,rfl⟩,hdel⟩,ht⟩,hok⟩,hni⟩:=q;exact ⟨cd,bm,by unfold PySem.W.clsIn;rw [ho],hm,by show Option.map (fun x=>x.cls) (K.lookup C')=_;rw [ho];rfl⟩
   ·cases q
  ·cases q
 obtain ⟨c1,b1,e1,m1,t1⟩:=mro x;obtain ⟨c2,b2,e2,m2,t2⟩:=mro y;unfold PySem.W.kitOne;rw [Jz]
 ·unfold PySem.W.kitCls;show (if ((PySem.W.clsIn K B).isSome&&PySem.W.typeIn K (.ref B)==some (.type "type"))=true then PySem.W.subIn K (.ref C) (.ref B) else none)=some false;rw [e2,t2,JB (by simp)];exact h
 ·intro q;have q:C=B:=Value.ref.inj (Kg.mp q);subst q;unfold PySem.W.mroIn at h;rw [e1] at h;have h:(if c1.mro.isEmpty then none else some (c1.mro.contains (.ref C)))=some false:=h;rw [m1] at h;have h:(Value.ref C :: b1).contains (.ref C)=false:=Km h;simp at h
open PySem PySem.Spec PyProof.Rows
abbrev Cd:=List (Int×Addr)
noncomputable def cdO (l:Cd):V->Option Addr
 | .int i=>l.lookup i
 | _=>none
def QC (E:XK) (l:Cd) (Q:VK):VK:=fun v H=>match cdO l v with | some C=>E (.ref C) none H | none=>Q v H
theorem QC.no {E:XK} {l:Cd} {Q:VK} {v:V} {H:Hp} (h:QC E l Q v H) (e:cdO l v=none):Q v H:=by
 unfold QC at h;rw [e] at h;exact h
theorem QC.yes {E:XK} {l:Cd} {Q:VK} {v:V} {H:Hp} {C:Addr} (h:QC E l Q v H) (e:cdO l v=some C):E (.ref C) none H:=by
 unfold QC at h;rw [e] at h;exact h
theorem xf {l:Cd} {v:V} (h:∀ i,v≠.int i):cdO l v=none:=by
 cases v with
 | int i=>exact absurd rfl (h i)
 | _=>rfl
abbrev DC (E:XK) (l:Cd) (Q:VK):Ends:={ nx:=fun _ H'=>QC E l Q .non H',rt:=QC E l Q }
structure JQ (X:Cx) (E:XK) (l:Cd) (Q:VK) (body:List Stmt) (t:TS):Prop where
 h:∀ (pins:List (Addr×Obj)) (s:Shared) (σ:St) (H:Hp),Inv X pins σ H s->t (DC E l Q) σ H->wpAny (model X.prog X.w) X.A (execs body X.env) (SP X pins { nx:=fun _ H'=>Q .non H',rt:=Q }) X.xe s
def Eg (X:Cx) (E:XK):Prop:=∀ {pins:List (Addr×Obj)} {σ:St} {H1 H':Hp} {s1 s2:Shared} {b:Heap} {ea C t:Addr},Inv X pins σ H1 s1->s2.os=s1.os->AllBare s2.gens->Un (frs X.stack) [] H1 H' s1.heap s2.heap ->
 (∀ c o,s1.heap.get? c=some o->c ∉ frs X.stack->∃ o',b.get? c=some o')->HOk X.prog X.w H' b->Heap.FlyingW b X.stack ea (.ref C) (.ref t) s2.heap->E (.ref C) none H'->X.xe (.ref ea) s2
theorem pX {P:Program} {w:World} {K:Fg} {mg:Str->Option Value} {base:Heap} {N:List Str} {qual:Str} {scope:Scope} {f:Addr} {cd:Value} {A:Around} {outer:List Env} {s:Shared} {H:Hp} {E:XK}:Eg (md (CX1 P w) P w K mg base N qual scope f cd A outer s H E) E:=by
 intro pins σ H1 H' s1 s2 b ea C t I ho hb u k hok fl ew;have nfr:∀ c,c∈frs (envOfC qual scope s.heap.objs.size f cd :: outer)->c=s.heap.objs.size\/c∈frs outer:=fun c hc=>by
  have q:=I.kM c hc;rcases JV.mp q with z | z
  ·exact .inl z
  ·exact .inr z
 refine wpAny_leaves_onW I.ok.frames rfl fl fun h2 fl2 sl=>?_;have I2:=mM I ho hb u k hok fl fl2.1 sl;have U:Un (frs outer) [] H H' s.heap h2:=I2.base;have U1:Un (frs outer) [] H H1 s.heap s1.heap:=I.base;refine ⟨ea,C,t,H',b,rfl,ho.trans I.os,hb,U,fun c o q hc=>?_,hok,fl2,ew⟩;obtain ⟨o1,q1⟩:=U1.there c o q (by simp);refine k c o1 q1 fun z=>?_;rcases nfr c z with z | z
 ·exact absurd (JX q) (by rw [z];exact Kr _)
 ·exact hc z
section
variable {X:Cx} {E:XK} {l:Cd} {Q:VK}
theorem zM {st:Stmt} {rest:List Stmt} {te:TE} {g:TG} {t:TS} (h1:JS X st (kN te g)) (h2:JQ X E l Q rest t):JQ X E l Q (st :: rest) (wk (kN te g) t):=by
 refine ⟨fun pins s σ H I h=>?_⟩;refine KP (thn (h1.h pins s σ H { nx:=t (DC E l Q),rt:=fun _ _=>False } I h) fun f s1 q=>?_);cases f with
 | next =>
  obtain ⟨σ',H',I',q⟩:=q;exact h2.h pins s1 σ' H' I' q
 | ret v=>obtain ⟨_,_,_,_,_,q⟩:=q;exact q.elim
 | brk=>obtain ⟨_,_,_,q⟩:=q;exact q.elim
 | cont=>obtain ⟨_,_,_,q⟩:=q;exact q.elim
theorem qp {c e0:Expr} {x:Str} {rest:List Stmt} {tc:TT} {t:TS} {v:V} {i:Int} {C:Addr} {np cpos pos pos2:Pos} (hc:JT X c tc) (xc:iP X.K C) (hg:Gl X x) (hm:X.mg x=some (.ref C)) (hh:X.A.handled=none) (ha:JE X e0 (tC v)) (hs:PySem.W.isStarred e0=false)
  (hL:Lets X E C) (h2:JQ X E l Q rest t) (hd:(x==("__debug__" : Str))=false) (hi:l.lookup i=some C):JQ X E l Q (.If c [.Raise (some (.Call (.Name x np) [e0] [] cpos)) none pos] [] pos2 :: rest) (wk (zg tc (yq (tC (.int i))) pN) t):=by
 refine ⟨fun pins s σ H I h=>?_⟩;refine KP (wpAny_If (thn (hc.h pins s σ H _ I h) fun d s1 ⟨H1,I1,q1⟩=>?_));cases d with
 | true =>
  have ew:E (.ref C) none H1:=QC.yes (show QC E l Q (.int i) H1 from q1) hi;refine KP ?_;exact vC (EW:=fun H=>E (.ref C) none H) xc hg hm hh (jC ha.h qd (ao hs)) I1 ⟨(by decide:1<=sizeLine),ew⟩ (fun s2 H2 us h' e I2 ew2 hx=>hL pins σ H2 s2 h' e us I2 ew2 hx) (ao hs) rfl hd
 | false=>exact KY (h2.h pins s1 σ H1 I1 q1)
theorem CT:JQ X E l Q [] pN:=⟨fun pins s σ H I h=>KY ⟨σ,H,I,QC.no (E:=E) (l:=l) h rfl⟩⟩
theorem vL {e:Expr} {te:TE} {pos:Pos} {r:List V->Hp->VK->Prop} (he:JE X e te) (hr:∀ vs H (Q:VK),r vs H Q->∃ v,vs=[v]/\(∀ i,v≠.int i)/\Q v H):JQ X E l Q [.Return (some e) pos] (yq (tCB r (aR te gp))):=by
 refine ⟨fun pins s σ H I h=>?_⟩;refine KP (wpAny_Return_some (thn (he.h pins s σ H _ I h) fun v s1 ⟨x,H1,I1,r1,q1⟩=>?_));obtain ⟨y,e1,ne,q⟩:=hr _ _ _ q1;cases e1;exact ⟨x,σ,H1,I1,r1,QC.no q (xf ne)⟩
def Told (spN sp:Sp) (l:Cd):Prop:=∀ vs H (Q:VK) E',spN vs H Q E'->∀ (Q1:VK) (E1:XK),(∀ v H',Q v H'->QC E1 l Q1 v H')->sp vs H Q1 E1
theorem gn {spN sp:Sp} {NE:XK} {k:Nat} {f:Addr} {lg:Cd} {fd:FuncData} {ps:List Str} {a:Expr} {as:List Expr} {ta:TA} {g:Str} {p3 p4:Pos}
  (F:br X.prog X.w X.K X.mg X.base (CX1 X.prog X.w) k f fd ps sp) (hr:cq k X.A) (hgf:Gl X g) (hmf:X.mg g=some (.ref f)) (hk:PySem.W.keepIn X.K (.ref f)=true) (hb:Binds X.K fd ps [])
  (ha:JA X (a :: as) ta) (s1:PySem.W.isStarred a=false) (s2:as.all (fun e=>!PySem.W.isStarred e)=true) (hdg:(g==("__debug__" : Str))=false) (hsp:Told spN sp lg)
  {pins:List (Addr×Obj)} {s:Shared} {σ:St} {H:Hp} {QN:VK} {QV:Value->Shared->Prop} {EV:Value->Shared->Prop} (I:Inv X pins σ H s) (h:ta σ H fun vs H1=>spN (vs++[]) H1 QN NE) (hxe:∀ e s',X.xe e s'->EV e s')
  (hv:∀ v H4 u s4,cdO lg v=none->Inv X pins σ H4 s4->RelV v u->QN v H4->QV u s4)
  (he:∀ v C H1 H' s1 s2 b ea t,cdO lg v=some C->Inv X pins σ H1 s1->s2.os=s1.os->AllBare s2.gens->Un (frs X.stack) [] H1 H' s1.heap s2.heap->(∀ c o,s1.heap.get? c=some o->c ∉ frs X.stack->∃ o',b.get? c=some o')->HOk X.prog X.w H' b ->
   Heap.FlyingW b X.stack ea (.ref C) (.ref t) s2.heap->QN v H'->EV (.ref ea) s2):wpAny (model X.prog X.w) X.A (eval (.Call (.Name g p3) (a :: as) [] p4) X.env) QV EV s:=by
 refine LU (jQ I hgf hmf ?_ hdg);refine PySem.W.callWith_K (h₀:=X.base) I.ok.mod.kin hk (Ke (ha.h p4 pins _ σ H _ I h) (fun us s3 z=>?_) hxe) (ao s1) (bC s2);obtain ⟨vs,H3,I3,r3,q3⟩:=z;refine ⟨I3.kIn,?_⟩;rw [Kj] at q3;have q4:=hsp _ _ _ _ q3 (fun v H'=>cdO lg v=none/\QN v H') (fun c _ H'=>∃ v C,c=.ref C/\cdO lg v=some C/\QN v H') fun v H' z=>by
  unfold QC;cases e:cdO lg v with
  | none=>exact ⟨e,z⟩
  | some C=>exact ⟨v,C,rfl,e,z⟩
 have hlen:us.length=ps.length:=by rw [<- r3.length];exact F.len _ _ _ _ q4
 have hb':BindsTo s3 fd ⟨us,[]⟩ (ps.zip us):=by
  have z:=hb s3 us I3.kIn (by rw [Kj];exact hlen);rw [Kj] at z;exact z
 refine wpAny_call (codeAny_mono (F.run X.A X.stack s3 H3 ⟨us,[]⟩ us vs _ _ hr I3.DV hb' r3 q4) fun r s' hq=>?_);cases r with
 | error e =>
  obtain ⟨ea,C',t,H',b,rfl,ho,hbr,u,kk,hok,fl,v,C,ec,ev,q⟩:=hq;cases ec;exact he v C' H3 H' s3 s' b ea t ev I3 ho hbr u kk hok fl q
 | ok fl =>
  cases fl with
  | next=>exact False.elim hq
  | brk=>exact False.elim hq
  | cont=>exact False.elim hq
  | ret u =>
   obtain ⟨v,H4,I4,r4,e4,q4⟩:=I3.after hq;exact hv v H4 u s' e4 I4 r4 q4
theorem sN {spN sp:Sp} {NE:XK} {k:Nat} {f C:Addr} {i:Int} {fd:FuncData} {ps:List Str} {a:Expr} {as:List Expr} {rest:List Stmt} {ta:TA} {t:TS} {g:Str} {p3 p4 p7:Pos} {r:List V->Hp->VK->Prop}
  (F:br X.prog X.w X.K X.mg X.base (CX1 X.prog X.w) k f fd ps sp) (hr:cq k X.A) (hgf:Gl X g) (hmf:X.mg g=some (.ref f)) (hk:PySem.W.keepIn X.K (.ref f)=true) (hb:Binds X.K fd ps [])
  (ha:JA X (a :: as) ta) (s1:PySem.W.isStarred a=false) (s2:as.all (fun e=>!PySem.W.isStarred e)=true) (hdg:(g==("__debug__" : Str))=false) (hsp:Told spN sp [(i,C)]) (hF:Eg X E) (hi:l.lookup i=some C)
  (hw1:swapsWith (.Call (.Name g p3) (a :: as) [] p4) none p7.line X.env=pure false) (hrr:∀ v H (Q:VK),r [v] H Q->Q (.bl (decide (v=.int i))) H) (h2:JQ X E l Q rest t) :
  JQ X E l Q (.Expr (.Call (.Name g p3) (a :: as) [] p4) p7 :: rest) (wk (zg (mQ (tCB r (aR (j5 spN [] NE ta) gp))) (yq (tC (.int i))) pN) t):=by
 have key:∀ v H' σ,r [v] H' (fun u H1=>∃ d,u=.bl d/\(if d=true then QC E l Q (.int i) H1 else t (DC E l Q) σ H1))->if v=.int i then QC E l Q (.int i) H' else t (DC E l Q) σ H':=fun v H' σ h=>by
  obtain ⟨d,ed,q⟩:=hrr _ _ _ h;by_cases hv:v=.int i
  ·rw [JB hv];rw [J6 hv] at ed;cases ed
   rwa [JB rfl] at q
  ·rw [Jz hv];rw [J3 hv] at ed;cases ed
   rwa [Jz JL] at q
 refine ⟨fun pins s σ H I h=>?_⟩;refine KP (wpAny_Expr_any ?_ I.quiet hw1);refine gn (lg:=[(i,C)]) F hr hgf hmf hk hb ha s1 s2 hdg hsp I h (fun _ _ z=>z) (fun v H4 u s4 ev I4 r4 q4=>?_) fun v C' H1 H' s1 s2 b ea t ev I1 ho hbr u kk hok fl q=>?_
 ·have q:=key v H4 σ q4;rw [Jz (fun z=>by subst z;simp [cdO] at ev)] at q;exact h2.h pins s4 σ H4 I4 q
 ·have hv:v=.int i/\C'=C:=by
   cases v with
   | int j =>
    simp only [cdO,List.lookup] at ev;by_cases e:j=i
    ·subst e;simp at ev;exact ⟨rfl,ev.symm⟩
    ·have:(j==i)=false:=by simpa using e
     rw [this] at ev;cases ev
   | _=>cases ev
  obtain ⟨rfl,rfl⟩:=hv;have q:=key _ H' σ q;rw [JB rfl] at q;exact hF I1 ho hbr u kk hok fl (QC.yes q hi)
theorem xh {spN sp:Sp} {NE:XK} {k:Nat} {f:Addr} {fd:FuncData} {ps:List Str} {a:Expr} {as:List Expr} {ta:TA} {g:Str} {p3 p4 pos:Pos}
  (F:br X.prog X.w X.K X.mg X.base (CX1 X.prog X.w) k f fd ps sp) (hr:cq k X.A) (hgf:Gl X g) (hmf:X.mg g=some (.ref f)) (hk:PySem.W.keepIn X.K (.ref f)=true) (hb:Binds X.K fd ps [])
  (ha:JA X (a :: as) ta) (s1:PySem.W.isStarred a=false) (s2:as.all (fun e=>!PySem.W.isStarred e)=true) (hdg:(g==("__debug__" : Str))=false) (hsp:Told spN sp l) (hF:Eg X E):JQ X E l Q [.Return (some (.Call (.Name g p3) (a :: as) [] p4)) pos] (yq (j5 spN [] NE ta)):=by
 refine ⟨fun pins s σ H I h=>?_⟩;refine KP (wpAny_Return_some ?_);refine gn (lg:=l) F hr hgf hmf hk hb ha s1 s2 hdg hsp I h (fun _ _ z=>z) (fun v H4 u s4 ev I4 r4 q4=>⟨v,σ,H4,I4,r4,QC.no q4 ev⟩) fun v C' H1 H' s1 s2 b ea t ev I1 ho hbr u kk hok fl q=>hF I1 ho hbr u kk hok fl (QC.yes q ev)
theorem AZ {spN sp:Sp} {NE:XK} {k:Nat} {f:Addr} {fd:FuncData} {ps:List Str} {a:Expr} {as:List Expr} {ta:TA} {g:Str} {p3 p4:Pos} {r:List V->Hp->VK->Prop}
  (F:br X.prog X.w X.K X.mg X.base (CX1 X.prog X.w) k f fd ps sp) (hr:cq k X.A) (hgf:Gl X g) (hmf:X.mg g=some (.ref f)) (hk:PySem.W.keepIn X.K (.ref f)=true) (hb:Binds X.K fd ps [])
  (ha:JA X (a :: as) ta) (s1:PySem.W.isStarred a=false) (s2:as.all (fun e=>!PySem.W.isStarred e)=true) (hdg:(g==("__debug__" : Str))=false) (hsp:Told spN sp l)
  (hn:∀ vs H (Q:VK),r vs H Q->∃ v,vs=[v]/\(∀ i,v≠.int i)/\Q v H):JE X (.Call (.Name g p3) (a :: as) [] p4) (tCB r (aR (j5 spN [] NE ta) gp)):=by
 refine ⟨fun pins s σ H Q I h=>?_⟩;refine gn (lg:=l) (QN:=fun v H'=>r [v] H' Q) F hr hgf hmf hk hb ha s1 s2 hdg hsp I h (fun _ _ z=>z) (fun v H4 u s4 ev I4 r4 q4=>?_) fun v C' H1 H' s1 s2 b ea t ev I1 ho hbr u kk hok fl q=>?_
 ·obtain ⟨y,e,_,q⟩:=hn _ _ _ q4;cases e;exact ⟨v,H4,I4,r4,q⟩
 ·obtain ⟨y,e,ni,_⟩:=hn _ _ _ q;cases e;rw [xf ni] at ev;cases ev
end
section
variable {P:Program} {w:World} {K:Fg} {mg:Str->Option Value} {base:Heap}
theorem Fun.okQ {x qual:Str} {st:Stmt} {f:Addr} {l:Cd} {fd:FuncData} {N ps:List Str} {k:Nat} {sp:Sp} (F:Fun K x qual st f fd) (S:ag N ps (aa st)) (len:∀ vs H Q E,sp vs H Q E->vs.length=ps.length)
  (hbody:∀ (cdv:Value) (A:Around) (outer:List Env) (s:Shared) (H:Hp) (vs:List V) (Q:VK) (E:XK),cq k (A.deeper (envOfC qual (aa st) s.heap.objs.size f cdv))->sp vs H Q E ->
   ∃ t,JQ (md (CX1 P w) P w K mg base N qual (aa st) f cdv A outer s H E) E l Q (bE st) t/\t (DC E l Q) (start N vs) H):br P w K mg base (CX1 P w) (k+1) f fd ps sp:=by
 obtain ⟨oc,od,kV,doc,pm,an,cdv,ct,osl,rfl,lk,hcd⟩:=F.ex;refine C7 lk hcd S len fun A outer s H vs Q E hr hsp=>?_;obtain ⟨t,h,q⟩:=hbody cdv A outer s H vs Q E hr hsp;refine ⟨fun D σ H=>D={ nx:=fun _ H'=>Q .non H',rt:=Q }/\t (DC E l Q) σ H,fun pins s1 σ H1 D I z=>?_,rfl,q⟩;obtain ⟨rfl,z⟩:=z;exact h.h pins s1 σ H1 I z
def spC (f:Fn) (l:Cd) (K:Fg):Sp:=fun vs H Q E=>cE f K vs H (QC E l Q) NoE
theorem iV {f:Fn} {l:Cd}:Told (cE f K) (spC f l K) l:=fun vs H Q E' h Q1 E1 k=>uJ h k
end
open PySem PySem.Spec PyProof.Rows
section
variable {X:Cx}
def TB (X:Cx) (i j:Nat) (l:Cd) (tag:Str) (body:List Stmt) (tb:TS):Prop:=∀ (pins:List (Addr×Obj)) (s:Shared) (σ:St) (H:Hp) (D:Ends) (QF:Flow->Shared->Prop) (EV:Value->Shared->Prop),Inv X pins σ H s->tb D σ H ->
 (∀ v H4 s5 q,cdO l v=none->D.nx (σ.set j (some v)) H4->H4 q=none->Inv X pins ((σ.set j (some v)).set i (some (.ref q))) (upd H4 q (.lst [.str tag,v])) s5->QF .next s5) ->
 (∀ v C H1 H' s1 s2 b ea t,cdO l v=some C->Inv X pins (σ.set j (some v)) H1 s1->s2.os=s1.os->AllBare s2.gens->Un (frs X.stack) [] H1 H' s1.heap s2.heap->(∀ c o,s1.heap.get? c=some o->c ∉ frs X.stack->∃ o',b.get? c=some o')->HOk X.prog X.w H' b ->
   Heap.FlyingW b X.stack ea (.ref C) (.ref t) s2.heap->D.nx (σ.set j (some v)) H'->EV (.ref ea) s2)->wpAny (model X.prog X.w) X.A (execs body X.env) QF EV s
theorem v8 {spN sp:Sp} {NE:XK} {k i j:Nat} {f:Addr} {l:Cd} {fd:FuncData} {ps:List Str} {a:Expr} {as:List Expr} {ta:TA} {g fx y tag:Str} {j1:Nat} {p1 p2 p3 p4 p5 p6:Pos}
  (F:br X.prog X.w X.K X.mg X.base (CX1 X.prog X.w) k f fd ps sp) (hr:cq k X.A) (hgf:Gl X g) (hmf:X.mg g=some (.ref f)) (hk:PySem.W.keepIn X.K (.ref f)=true) (hb:Binds X.K fd ps [])
  (ha:JA X (a :: as) ta) (s1:PySem.W.isStarred a=false) (s2:as.all (fun e=>!PySem.W.isStarred e)=true) (hdg:(g==("__debug__" : Str))=false) (hsp:Told spN sp l)
  (nd:X.N.Nodup) (hi:X.N[i]?=some fx) (hx:Loc X.env.scope fx) (hfn:X.fn fx=true\/X.env.scope.names.lookup fx=some .local) (hj:X.N[j]?=some y) (hy:¬Vis X.env.scope y)
  (hw1:swapsWith (.List [.Constant (.str tag) j1 p2,.Call (.Name g p3) (a :: as) [] p4] p5) (some (.Name fx p1)) p6.line X.env=pure false) (hxe:∀ e s,¬X.xe e s) :
  TB X i j l tag [.Assign [.Name fx p1] (.List [.Constant (.str tag) j1 p2,.Call (.Name g p3) (a :: as) [] p4] p5) p6] (kN (j5 spN [] NE ta) (bQ j)):=by
 intro pins s σ H D QF EV I h hok hex;refine KP (wpAny_Assign_Name (wpAny_List_spliced ?_) hw1);have st1:starEach [Expr.Constant (.str tag) j1 p2,.Call (.Name g p3) (a :: as) [] p4] X.env=[(false,eval (.Constant (.str tag) j1 p2) X.env),(false,eval (.Call (.Name g p3) (a :: as) [] p4) X.env)]:=by
  rw [ao rfl,ao rfl];rfl
 rw [st1];refine Calls.spliced_cons (x:=eval (.Constant (.str tag) j1 p2) X.env) (Calls.Constant_str (k:=j1) (pos:=p2) ?_);have I1:Inv X pins σ H { s with toks:=s.toks+1 }:=I.tok _;refine Calls.spliced_cons (x:=eval (.Call (.Name g p3) (a :: as) [] p4) X.env) (gn (lg:=l) F hr hgf hmf hk hb ha s1 s2 hdg hsp I1 h (fun e s z=>(hxe e s z).elim) (fun v H4 u s4 ev I4 r4 q4=>?_) fun v C H1 H' s1 s2 b ea t ev I3 ho hbr u kk hok fl q=>?_)
 ·refine Calls.spliced_nil ⟨(by decide:2<=sizeLine),?_⟩;have hf:H4 s4.heap.objs.size=none:=I4.hok.fresh (JH _);have I5:Inv X pins (σ.set j (some v)) (upd H4 s4.heap.objs.size (.lst [.str tag,v])) { s4 with heap:=s4.heap.push { cls:=.type "list", data:=.seq ([.str tag s.toks,u]:List Value).toArray } } :=
   (I4.Hw hj hy).laid (t':=s4.toks) (fun b u e=>JN _ e) (JH _) ⟨(by decide:2<=sizeLine),_,0,.cons ⟨_,rfl⟩ (.cons r4 .nil),Kc _ rfl⟩
  exact gb I5 nd hi hx (v:=.ref s4.heap.objs.size) rfl (fun s6 I6=>KY (hok v H4 s6 _ ev q4 hf I6)) hfn
 ·exact hex v C H1 H' s1 s2 b ea t ev (I3.Hw hj hy) ho hbr u kk hok fl q
theorem EU {i j:Nat} {l:Cd} {tag:Str} {c:Expr} {tc:TT} {b1 b2:List Stmt} {t1 t2:TS} {pos:Pos} (hc:JT X c tc) (h1:TB X i j l tag b1 t1) (h2:TB X i j l tag b2 t2) (hxe:∀ e s,¬X.xe e s):TB X i j l tag [.If c b1 b2 pos] (zg tc t1 t2):=by
 intro pins s σ H D QF EV I h hok hex;refine KP (wpAny_If (Ke (hc.h pins s σ H _ I h) (fun d s1 ⟨H1,I1,q1⟩=>?_) fun e s z=>(hxe e s z).elim));cases d with
 | true=>exact Ke (h1 pins s1 σ H1 D (fun f s2=>match f with | .next=>QF .next s2 | f=>False) EV I1 q1 hok hex) (fun f s2 z=>by
   cases f with
   | next=>exact KY z
   | _=>exact z.elim) fun _ _ z=>z
 | false=>exact Ke (h2 pins s1 σ H1 D (fun f s2=>match f with | .next=>QF .next s2 | f=>False) EV I1 q1 hok hex) (fun f s2 z=>by
   cases f with
   | next=>exact KY z
   | _=>exact z.elim) fun _ _ z=>z
def TH (X:Cx) (j:Nat) (l:Cd) (n:Str) (iw:List Stmt) (post:TS):Prop:=∀ (v:V) (C ea:Addr) (oe:Obj) (pins:List (Addr×Obj)) (s:Shared) (σ:St) (H:Hp) (D:Ends),cdO l v=some C->oe.cls=.ref C->σ[j]?=some (some v)->σ.length=X.N.length->post D σ H->Inv (Xs X ea oe n) pins (σ++[some (.ref ea)]) H s ->
 wpAny (model X.prog X.w) (X.A.mark (some (.ref ea))) (execs iw X.env) (fun f s4=>f=.next/\∃ H4 τ,Inv (Xs X ea oe n) pins τ H4 s4/\D.nx (τ.take X.N.length) H4) (fun _ _=>False) s
theorem D8 {i j:Nat} {l:Cd} {Dc:Addr} {tag y n dn:Str} {body:List Stmt} {b0:Stmt} {iw:List Stmt} {tb post:TS} {np hp pos:Pos}
  (hB:TB X i j l tag body tb) (hH:TH X j l n (b0 :: iw) post) (hj:X.N[j]?=some y)
  (hpo:∀ (D:Ends) σ H v,σ[j]?=some (some v)->cdO l v=none->post D σ H->∀ p,H p=none->D.nx (σ.set i (some (.ref p))) (upd H p (.lst [.str tag,v])))
  (nd:X.N.Nodup) (hl:X.env.kindOf n=some .local) (hn:n ∉ X.N) (hx:∀ i C,l.lookup i=some C->iP X.K C/\PySem.W.mroIn X.K C (.ref Dc)=some true) (xD:iP X.K Dc) (hgD:Gl X dn) (hmD:X.mg dn=some (.ref Dc)) (hdd:(dn==("__debug__" : Str))=false)
  (hst:X.stack=X.env :: X.outer) (hfr:X.env.frame=some X.env.locals) :
  JS X (.Try body [.ExceptHandler (some (.Name dn np)) (some n) (b0 :: iw) hp] [] [] pos) (wk tb post):=by
 refine ⟨fun pins s σ H Dn I h=>?_⟩;have jl:j < σ.length:=by rw [I.len];exact (Js.mp hj).1
 have gj:∀ v:V,(σ.set j (some v))[j]?=some (some v):=fun v=>JK jl;have h:tb { Dn with nx:=post Dn } σ H:=h;refine wpAny_Try_except (hB pins s σ H _ _ _ I h (fun v H4 s5 q ev hp hq I5=>?_) fun v C H1 H' s1 s2 b ea t ev I3 ho hbr u kk hok fl q=>?_)
 ·exact KY ⟨_,_,I5,hpo Dn _ H4 v (gj v) ev hp q hq⟩
 ·have hv:∃ c,l.lookup c=some C:=by
   cases v with
   | int c=>exact ⟨c,ev⟩
   | _=>cases ev
  obtain ⟨c,hc⟩:=hv;obtain ⟨xC,hm⟩:=hx c C hc;refine tS (D:=Dc) rfl I3 ho hbr u kk hok fl hst hfr xC xD hm hgD hmD hl hn nd hdd fun oe s5 oc I5=>?_;refine Ke (hH v C ea oe pins s5 _ H' Dn ev oc (gj v) (by rw [J8];exact I.len) q I5) (fun f s4 z=>?_) fun _ _ z=>z;obtain ⟨rfl,H4,τ,I6,z⟩:=z;exact ⟨rfl,H4,τ,pins,I6,fun s5 I7=>⟨_,_,I7,z⟩⟩
end
open PySem PySem.Spec PyProof.Rows
noncomputable def isC (c:Int):PyData->Bool
 | .int i=>decide (i=c)
 | _=>false
noncomputable def jK (c:Int):Prm:=Prm.one (fun _ v H Q=>Q (.bl (decide (v=.int c))) H) (fun d=>some (.dat (.bool (isC c d)))) fun K F H x u pr Q hf hx hd q=>by
 cases hf;have e:decide (u=.int c)=isC c x:=by
  cases x with
  | int i=>rw [vInt hx];show decide _=decide _;congr 1;exact propext ⟨fun z=>by cases z;rfl,fun z=>by rw [z]⟩
  | none=>rw [Cs hx];exact J3 fun z=>nomatch z
  | str i=>rw [(vStr hx).1];exact J3 fun z=>nomatch z
  | bool i=>rw [vBl hx];exact J3 fun z=>nomatch z
  | tuple i=>obtain ⟨a,xs,rfl,_⟩:=lN hx;exact J3 fun z=>nomatch z
  | list i=>obtain ⟨a,xs,rfl,_⟩:=lL hx;exact J3 fun z=>nomatch z
  | dict i=>obtain ⟨a,rfl,_⟩:=hx;exact J3 fun z=>nomatch z
 rw [e];exact q _ H (ar.rf H) rfl
noncomputable def niP:Prm:=Prm.one (fun _ v H Q=>(∀ i,v≠.int i)/\Q v H) (fun d=>match d with | .tuple x=>some (.dat (.tuple x)) | _=>none) fun K F H x u pr Q hf hx hd q=>by
 cases x with
 | tuple i=>cases hf;exact ⟨(by obtain ⟨a,xs,rfl,_⟩:=lN hx;exact fun i z=>nomatch z),q _ H (ar.rf H) hx⟩
 | _=>cases hf
theorem xg {K:Fg}:∀ vs H (Q:VK),niP.r K vs H Q->∃ v,vs=[v]/\(∀ i,v≠.int i)/\Q v H:=fun vs H Q h=>by
 match vs,h with
 | [v],h=>exact ⟨v,rfl,h.1,h.2⟩
def grL (xs:List V) (H:Hp) (Q:VK):Prop:=∀ p H2,ar H H2->H p=none->H2 p=some (.lst xs)->Q (.ref p) H2
theorem nZ {K:Fg} {F:Addr->Prop} {H:Hp}:∀ {ws:List Str},(∀ x∈ws,x.length<=sizeLine/\PyData.strOk x=true)->DmL K F H (ws.map .str) (ws.map V.str)
 | [],_=>rfl
 | w :: ws,h=>⟨_,_,rfl,⟨rfl,h w Jy⟩,nZ fun x hx=>h x (JJ _ hx)⟩
noncomputable def nV (ws:List Str) (h1:∀ x∈ws,x.length<=sizeLine/\PyData.strOk x=true) (h2:ws.length<=sizeLine):Prm where
 r:=fun _ _ H Q=>grL (ws.map V.str) H Q
 f:=fun _=>some (.frs (.list (ws.map .str)))
 ok:=fun K F H ds vs pr Q hf hv hd q=>by
  cases hf;intro p H2 sm hp hl;exact q _ H2 sm ⟨p,rfl,hp,_,hl,by rw [Jt];exact h2,nZ h1⟩
section
variable {X:Cx} {ea C:Addr} {oe:Obj} {n:Str}
def isE (m:Nat) (ea:Addr) (b:Bool):TE:=fun σ H Q=>σ[m]?=some (some (.ref ea))/\Q (.bl b) H
def glE (m:Nat) (ea:Addr) (xs:List V):TE:=fun σ H Q=>σ[m]?=some (some (.ref ea))/\grL xs H Q
theorem qh {A:Expr} {c:V} {cv:Value} {b:Bool} {p p2 pos:Pos} (xC:iP X.K C) (oc:oe.cls=.ref C) (hg:Gl X "isinstance") (hmi:X.mg "isinstance" = none) (hl:X.env.kindOf n=some .local) (hdn:(n==("__debug__" : Str))=false) (hcn:(n==("__classdict__" : Str))=false)
  (hA:PE (Xs X ea oe n) A (tC c)) (hs:PySem.W.isStarred A=false) (hc:∀ u,RelV c u->u=cv) (hk:PySem.W.kitOne X.K (.ref C) cv=some b):JE (Xs X ea oe n) (.Call (.Name "isinstance" p) [.Name n p2,A] [] pos) (isE X.N.length ea b) :=
 ⟨fun pins s σ H Q I h=>isX xC oc hg hmi hl hdn hcn hA hs pins s σ H Q I ⟨_,h.1,c,cv,b,rfl,hc,hk,h.2⟩⟩
theorem C4 {m:Nat} {w:Str} {b:Bool} {ie:Expr} {j:Nat} {p1 p2 p3 p4 pos:Pos} (hb:JE (Xs X ea oe n) ie (isE m ea b)) (hs:PySem.W.isStarred ie=false) (hz:X.mg "int" = none) (hgi:Gl X "int") :
  JE (Xs X ea oe n) (.BinOp (.List [.Constant (.str w) j p1] p2) .Mult (.Call (.Name "int" p3) [ie] [] p4) pos) (glE m ea (if b=true then [.str w] else [])):=by
 refine ⟨fun pins s σ H Q I h=>(eOp (X:=Xs X ea oe n) x5 (jm (eA aB aj rfl)) (eTs (X:=Xs X ea oe n) (T := "int") (x := "int") lO hz (eA hb aj hs) hgi (by decide +kernel) hs)).h pins s σ H Q I ?_⟩;obtain ⟨e,h⟩:=h;refine ⟨(by decide:1<=sizeLine),fun p hp=>⟨e,.inr ⟨b,rfl,?_⟩⟩⟩;have s1:ar H (upd H p (.lst [.str w])):=ar.nw _ hp;cases b with
 | true=>exact ⟨p,[.str w],1,rfl,rfl,by decide,(show (1:Int)*1<=1000 by decide),by decide,.inl ⟨.inl (.inl af),fun p2 h2=>h p2 _ (s1.trans (ar.nw _ h2)) (s1.free h2) af⟩⟩
 | false=>exact ⟨p,[.str w],0,rfl,rfl,by decide,(show (1:Int)*0<=1000 by decide),by decide,.inl ⟨.inl (.inl af),fun p2 h2=>h p2 _ (s1.trans (ar.nw _ h2)) (s1.free h2) af⟩⟩
theorem dr {A:Addr} {An w:Str} {b:Bool} {j:Nat} {p p0 p1 p2 p3 p4 p5 p6 pos:Pos} (xC:iP X.K C) (oc:oe.cls=.ref C) (hmi:X.mg "isinstance" = none) (hz:X.mg "int" = none) (hmA:X.mg An=some (.ref A)) (hk:PySem.W.kitOne X.K (.ref C) (.ref A)=some b)
  (hg:Gl X "isinstance" := by exact rfl) (hgi:Gl X "int" := by exact rfl) (hgA:Gl X An:=by exact rfl) (hl:X.env.kindOf n=some .local:=by exact rfl) (hdn:(n==("__debug__" : Str))=false:=by exact rfl) (hcn:(n==("__classdict__" : Str))=false:=by exact rfl) (hdA:(An==("__debug__" : Str))=false:=by exact rfl) :
  JE (Xs X ea oe n) (.BinOp (.List [.Constant (.str w) j p1] p2) .Mult (.Call (.Name "int" p3) [.Call (.Name "isinstance" p) [.Name n p0,.Name An p5] [] p6] [] p4) pos) (glE X.N.length ea (if b=true then [.str w] else [])) :=
 C4 (qh xC oc hg hmi hl hdn hcn (lX (X:=Xs X ea oe n) (v:=.ref A) hgA hmA rfl hdA) rfl (fun u z=>z) hk) rfl hz hgi
theorem n4 {m:Nat} {xs ys:List V} {a b:Expr} {pos:Pos} (ha:JE (Xs X ea oe n) a (glE m ea xs)) (hb:JE (Xs X ea oe n) b (glE m ea ys)) (hl:xs.length+ys.length<=sizeLine):JE (Xs X ea oe n) (.BinOp a .Add b pos) (glE m ea (xs++ys)):=by
 refine ⟨fun pins s σ H Q I h=>(eOp (X:=Xs X ea oe n) aO ha hb).h pins s σ H Q I ?_⟩;obtain ⟨e,h⟩:=h;refine ⟨e,fun p1 H1 s1 f1 l1=>⟨e,fun p2 H2 s2 f2 l2=>?_⟩⟩;exact .inr (.inr (.inl ⟨p1,p2,xs,ys,rfl,rfl,.inl (.inl (s2 _ _ l1)),.inl (.inl l2),hl,fun p3 h3=>h p3 _ ((s1.trans s2).trans (ar.nw _ h3)) ((s1.trans s2).free h3) af⟩))
def glV (m wi:Nat) (ea:Addr) (zs xs:List V):TE:=fun σ H Q=>σ[m]?=some (some (.ref ea))/\(∃ p,σ[wi]?=some (some (.ref p))/\H p=some (.lst zs))/\grL (zs++xs) H Q
theorem n8 {m wi:Nat} {xs zs:List V} {x:Str} {b:Expr} {p pos:Pos} (hv:JE (Xs X ea oe n) (.Name x p) (kX wi)) (hb:JE (Xs X ea oe n) b (glE m ea xs)) (hl:zs.length+xs.length<=sizeLine):JE (Xs X ea oe n) (.BinOp (.Name x p) .Add b pos) (glV m wi ea zs xs):=by
 refine ⟨fun pins s σ H Q I h=>(eOp (X:=Xs X ea oe n) aO hv hb).h pins s σ H Q I ?_⟩;obtain ⟨e,⟨q,ev,lv⟩,h⟩:=h;refine ⟨_,ev,e,fun p2 H2 s2 f2 l2=>?_⟩;exact .inr (.inr (.inl ⟨q,p2,zs,xs,rfl,rfl,.inl (.inl (s2 _ _ lv)),.inl (.inl l2),hl,fun p3 h3=>h p3 _ (s2.trans (ar.nw _ h3)) (s2.free h3) af⟩))
theorem jY {m wi:Nat} {zs xs ys:List V} {a b:Expr} {pos:Pos} (ha:JE (Xs X ea oe n) a (glV m wi ea zs xs)) (hb:JE (Xs X ea oe n) b (glE m ea ys)) (hl:(zs++xs).length+ys.length<=sizeLine):JE (Xs X ea oe n) (.BinOp a .Add b pos) (glV m wi ea zs (xs++ys)):=by
 refine ⟨fun pins s σ H Q I h=>(eOp (X:=Xs X ea oe n) aO ha hb).h pins s σ H Q I ?_⟩;obtain ⟨e,v,h⟩:=h;refine ⟨e,v,fun p1 H1 s1 f1 l1=>⟨e,fun p2 H2 s2 f2 l2=>?_⟩⟩;exact .inr (.inr (.inl ⟨p1,p2,zs++xs,ys,rfl,rfl,.inl (.inl (s2 _ _ l1)),.inl (.inl l2),hl,fun p3 h3=>h p3 _ ((s1.trans s2).trans (ar.nw _ h3)) ((s1.trans s2).free h3) (by rw [J0];exact af)⟩))
def hnd (r:List V->Hp->VK->Prop) (i wi:Nat) (tag2:Str):TS:=wk (kN (tCB r gp) (bQ wi)) (kN (yL (aR (tC (.str tag2)) (aR (kX wi) (aR (tC (.bl true)) gp)))) (bQ i))
def PWc (K:Fg) (j:Nat) (h:List V->TS):List (Int×Str)->TS->TS
 | [],ok=>ok
 | (c,w) :: r,ok=>zg (mQ (tCB ((jK c).r K) (aR (kX j) gp))) (h [.str w]) (PWc K j h r ok)
theorem PWc.yes {K:Fg} {j:Nat} {h:List V->TS} {D:Ends} {σ:St} {H:Hp} {c:Int} {w:Str}:∀ {ws:List (Int×Str)} {ok:TS},PWc K j h ws ok D σ H->σ[j]?=some (some (.int c))->ws.lookup c=some w->h [.str w] D σ H
 | [],_,_,_,e=>by cases e
 | (c',w') :: ws,ok,hp,ej,e=>by
  obtain ⟨v,ev,k,ek,q⟩:=hp;rw [ej] at ev;cases ev;by_cases hc:c=c'
  ·subst hc;have e:some w'=some w:=by simpa [List.lookup] using e
   cases e;have ek:V.bl (decide (V.int c=V.int c))=.bl k:=ek;rw [J6 rfl] at ek;cases ek
   rwa [JB rfl] at q
  ·have hc':(c==c')=false:=by simpa using hc
   rw [List.lookup,hc'] at e;have ek:V.bl (decide (V.int c=V.int c'))=.bl k:=ek;rw [J3 (fun z=>hc (by cases z;rfl))] at ek;cases ek;rw [Jz JL] at q;exact PWc.yes q ej e
theorem PWc.no {K:Fg} {j:Nat} {h:List V->TS} {D:Ends} {σ:St} {H:Hp} {v:V}:∀ {ws:List (Int×Str)} {ok:TS},PWc K j h ws ok D σ H->σ[j]?=some (some v)->(∀ p∈ws,v≠.int p.1)->ok D σ H
 | [],_,h,_,_=>h
 | (c',w') :: ws,ok,hp,ej,e=>by
  obtain ⟨u,ev,k,ek,q⟩:=hp;rw [ej] at ev;cases ev;have ek:V.bl (decide (v=V.int c'))=.bl k:=ek;rw [J3 (e (c',w') Jy)] at ek;cases ek;rw [Jz JL] at q;exact PWc.no q ej fun p hp=>e p (JJ _ hp)
theorem vn {i j wi:Nat} {l:Cd} {ws:List (Int×Str)} {ok:TS} {tag2 wd fx:Str} {e12 e34 ev:Expr} {h:List V->TS} {k1:Nat} {p1 p2 p3 p4 p5 p6 q1 q2 q3:Pos}
  (hh:∀ w,h [.str w]=hnd (fun _ H Q=>grL [.str w] H Q) i wi tag2)
  (nd:X.N.Nodup) (hn:n ∉ X.N) (hi:X.N[i]?=some fx) (hx:Loc X.env.scope fx) (hfn:X.fn fx=true\/X.env.scope.names.lookup fx=some .local) (hw:X.N[wi]?=some wd) (hwx:Loc X.env.scope wd) (hwf:X.fn wd=true\/X.env.scope.names.lookup wd=some .local) (hwv:Vis X.env.scope wd)
  (hd1:(wd==("__debug__" : Str))=false) (hd2:(wd==("__classdict__" : Str))=false)
  (hs1:swapsWith e12 (some (.Name wd p1)) q1.line X.env=pure false) (hs2:swapsWith e34 (some (.Name wd p2)) q2.line X.env=pure false) (hs3:swapsWith (.List [.Constant (.str tag2) k1 p4,.Name wd p5,ev] p6) (some (.Name fx p3)) q3.line X.env=pure false) (hse:PySem.W.isStarred ev=false)
  (hs:∀ c C,l.lookup c=some C->∀ ea oe,oe.cls=.ref C->∃ xs12 xs34 w,ws.lookup c=some w/\xs12++xs34=[.str w]/\JE (Xs X ea oe n) e12 (glE X.N.length ea xs12)/\JE (Xs X ea oe n) e34 (glV X.N.length wi ea xs12 xs34)/\JE (Xs X ea oe n) ev (isE X.N.length ea true)) :
  TH X j l n [.Assign [.Name wd p1] e12 q1,.Assign [.Name wd p2] e34 q2,.Assign [.Name fx p3] (.List [.Constant (.str tag2) k1 p4,.Name wd p5,ev] p6) q3] (PWc X.K j h ws ok):=by
 intro v C ea oe pins s σ H D hv oc ej len hp I;obtain ⟨c,rfl,hc⟩:∃ c,v=.int c/\l.lookup c=some C:=by
  cases v with
  | int c=>exact ⟨c,rfl,hv⟩
  | _=>cases hv
 obtain ⟨xs12,xs34,w,hw2,hxs,j1,j2,j3⟩:=hs c C hc ea oe oc;have hq:=PWc.yes hp ej hw2;rw [hh] at hq;have wl:wi < X.N.length:=(Js.mp hw).1;have il:i < X.N.length:=(Js.mp hi).1;have ndN:(X.N++[n]).Nodup:=by
  rw [Kf]
  exact ⟨nd,by simp,fun a ha c hc z=>hn (by
   have hc:c=n:=by simpa using hc
   rw [<- hc,<-z];exact ha)⟩
 have hwN:(Xs X ea oe n).N[wi]?=some wd:=by show (X.N++[n])[wi]?=some wd;rw [JM wl];exact hw
 have hiN:(Xs X ea oe n).N[i]?=some fx:=by show (X.N++[n])[i]?=some fx;rw [JM il];exact hi
 have jv:JE (Xs X ea oe n) (.Name wd p5) (kX wi):=oO wi hwN hwv hd1 hd2;have run:=(aP (AM (X:=Xs X ea oe n) (i:=wi) j1 ndN hwN hwx hs1 hwf) (aP (AM (X:=Xs X ea oe n) (i:=wi) j2 ndN hwN hwx hs2 hwf) (aX (AM (X:=Xs X ea oe n) (i:=i) (jm (eA aB (eA jv (eA j3 aj hse) rfl) rfl)) ndN hiN hx hs3 hfn)))).h pins s _ _ { nx:=fun τ H4=>D.nx (τ.take X.N.length) H4,rt:=fun _ _=>False } I ?_
 ·refine Ke run (fun fl s6 z=>?_) fun _ _ z=>z.elim;cases fl with
  | next =>
   obtain ⟨τ,H4,I6,z⟩:=z;exact ⟨rfl,H4,τ,I6,z⟩
  | ret v=>obtain ⟨_,_,_,_,_,q⟩:=z;exact q.elim
  | brk=>obtain ⟨_,_,_,q⟩:=z;exact q.elim
  | cont=>obtain ⟨_,_,_,q⟩:=z;exact q.elim
 ·have sl:∀ x,((σ++[some (V.ref ea)]).set wi x)=σ.set wi x++[some (V.ref ea)]:=fun x=>List.set_append_left _ _ (by rw [len];exact wl);have gm:∀ x,((σ++[some (V.ref ea)]).set wi x)[X.N.length]?=some (some (.ref ea)):=fun x=>by rw [sl,<-len];simp
  have gw:∀ x,((σ++[some (V.ref ea)]).set wi x)[wi]?=some x:=fun x=>JK (by rw [Jr,len];omega);refine ⟨by rw [<- len];simp,fun p1 H1 s1 f1 l1=>⟨gm _,⟨p1,gw _,l1⟩,fun p2 H2 s2 f2 l2=>?_⟩⟩;show kN (yL (aR (tC (.str tag2)) (aR (kX wi) (aR (isE X.N.length ea true) gp)))) (bQ i) { nx:=fun τ H4=>D.nx (τ.take X.N.length) H4,rt:=fun _ _=>False } (((σ++[some (V.ref ea)]).set wi (some (.ref p1))).set wi (some (.ref p2))) H2;rw [KR];refine ⟨_,gw _,gm _,(by decide:3<=sizeLine),fun q hq2=>?_⟩;rw [hxs] at l2;have z:=hq p2 H2 (s1.trans s2) (s1.free f2) l2;obtain ⟨u,eu,_,z⟩:=z;rw [JK (by rw [len];exact wl)] at eu;cases eu;have z:=z q hq2;show D.nx ((((σ++[some (V.ref ea)]).set wi (some (.ref p2))).set i (some (.ref q))).take X.N.length) _;rw [sl,List.set_append_left _ _ (by rw [J8,len];exact il),List.take_append_of_le_length (by rw [J8,J8,len];exact JH _),KL (by rw [J8,J8,len];exact JH _)];exact z
theorem pw_ok {K:Fg} {i j:Nat} {h:List V->TS} {l:Cd} {ws:List (Int×Str)} {tag:Str} (hl:∀ p∈ws,(l.lookup p.1).isSome=true):∀ (D:Ends) (σ:St) (H:Hp) (v:V),σ[j]?=some (some v)->cdO l v=none->PWc K j h ws (kN (yL (aR (tC (.str tag)) (aR (kX j) gp))) (bQ i)) D σ H->∀ p,H p=none->D.nx (σ.set i (some (.ref p))) (upd H p (.lst [.str tag,v])):=by
 intro D σ H v ej ev hp p fp;have q:=PWc.no hp ej fun x hx z=>by
  subst z;have:=hl x hx;rw [show l.lookup x.1=none from ev] at this;cases this
 obtain ⟨u,eu,q⟩:=q;rw [ej] at eu;cases eu;exact q.2 p fp
theorem gf {K:Fg} {C:Addr}:PySem.W.kitOne K (.ref C) (.ref C)=some true:=by unfold PySem.W.kitOne;rw [JB (by simp)]
theorem jM {K:Fg} {C:Addr} (hV:PySem.W.mroIn K C (.type "ValueError")=some true):PySem.W.kitOne K (.ref C) (.type "ValueError")=some true:=by
 unfold PySem.W.kitOne;rw [Jz (by simp)];unfold PySem.W.kitCls;show (if PySem.W.kitMeta "ValueError" = true then PySem.W.subIn K (.ref C) (.type "ValueError") else none)=some true;rw [JB (by decide +kernel)];exact hV
theorem cP {P:Int->Addr->Prop} {c:Int} {C:Addr} {l:Cd} (h:P c C) (r:∀ c' C',l.lookup c'=some C'->P c' C'):∀ c' C',((c,C) :: l).lookup c'=some C'->P c' C':=by
 intro c' C' e;rw [List.lookup] at e;by_cases hc:c'=c
 ·subst hc;rw [Ks] at e;cases e;exact h
 ·have:(c'==c)=false:=by simpa using hc
  rw [this] at e;exact r c' C' e
theorem vM {P:Int->Addr->Prop}:∀ c' C',([]:Cd).lookup c'=some C'->P c' C':=fun _ _ e=>by cases e
theorem Fa.okQ {P:Program} {w:World} {K:Fg} {mg:Str->Option Value} {base:Heap} {x:Str} {st:Stmt} {a:Addr×FuncData} {N ps:List Str} {k:Nat} {b:XS} {gd:List PyData} {ga:Nat->V} {ms:List PM} {l:Cd}
  (D:Fa K mg x st ps a) (S:ag N ps (aa st)) (hg:∀ g d,gd[g]?=some d->∀ F H,Dm K F H d (ga g))
  (j:∀ {cdv:Value} {A:Around} {outer:List Env} {s:Shared} {H:Hp} {E:XK} {Q:VK},cq k (A.deeper (envOfC x (aa st) s.heap.objs.size a.1 cdv))->JQ (md (CX1 P w) P w K mg base N x (aa st) a.1 cdv A outer s H E) E l Q (bE st) (rS K ga b))
  (hl:ms.length<=N.length:=by decide) (hp:ms.length=ps.length:=by exact rfl):br P w K mg base (CX1 P w) (k+1) a.1 a.2 ps (spC (cM gd ms N.length b) l K) :=
 D.F.okQ S (fun vs H Q E h=>(oj h).trans hp) fun cdv A outer s H vs Q E hr h=>⟨_,j hr,tO (N:=N) hg h hl⟩
end
open PySem PySem.Spec PyProof.Rows
noncomputable def FC:PyData->Bool | .tuple _=>true | _=>false
theorem kL {α β:Type} {R:α->β->Prop}:∀ {l:List α} {m:List β} (j:Nat),Paired R l m->Paired R (l.eraseIdx j) (m.eraseIdx j)
 | _,_,_,.nil=>.nil
 | _,_,0,.cons h r=>r
 | _,_,j+1,.cons h r=>.cons h (kL j r)
section
variable {X:Cx} {pins:List (Addr×Obj)} {σ:St} {H:Hp} {s:Shared} {a:Addr} {ep:Nat} {xs:List (PyData×V×V)} {k:PyData} {u:Value} {as:List Addr} {A:Around} {E:Value->Shared->Prop}
theorem qF {Q:Option DictEntry->Shared->Prop} {j:Nat} {x:PyData×V×V} (hu:A.units+7 < cLine) (I:Inv X pins σ H s) (e:H a=some (.dD ep xs)) (kr:fO s.heap xs) (hk:Reads s.heap u k as) (ky:kyB k=true) (hx:xs[j]?=some x) (hx1:x.1=k)
  (q:∀ ep' s' (en:DictEntry),Inv X pins σ (upd H a (.dD ep' (xs.eraseIdx j))) s'->RelV x.2.2 en.val->Q (some en) s'):wpAny (model X.prog X.w) A (Builtin.Dict.takeOut a u) Q E s:=by
 obtain ⟨T,hd⟩:=fi I e;obtain ⟨z,_,nd,o,es,g1,g2,g3,g4⟩:=(show aQ X.prog X.w H s.heap a (.dD ep xs) from I.hok _ _ e);have hsz:es.size=xs.length:=by rw [Lx g4];simp
 have hkj:(xs.map (·.1))[j]?=some k:=by rw [JU,hx,<-hx1];rfl
 unfold Builtin.Dict.takeOut;refine KJ (Jp (ui 6 hk (aq.mp ky).1 (aq.mp ky).2.2 (by omega) fun t=>?_));refine Jp (ub (s:={ s with toks:=t }) (by omega) hk ky g1 g3 (jN (P:=X.prog) kr nd g4) (fun hno=>absurd hkj (hno j)) fun i hi=>?_);have eij:i=j:=(jN (P:=X.prog) kr nd g4:x9 X.w s.heap es (xs.map (·.1))).one hi hkj;subst eij;obtain ⟨en,h1,h2,h3,h4⟩:=cO g4 i x hx;have hen:es[i]?=some en:=by simpa using h1
 refine Jp (La (s:={ s with toks:=t }) g1 g3 ?_);rw [hen];dsimp only;refine Jp (wpAny_updateDictKeys (s:={ s with toks:=t }) (hz:=by omega) (hf:=?_) g1 g3 (Jw (q (ep+1) _ en (jZ (t':=t) (I.tok t) (by rw [e];exact True.intro) (LQ ..) ⟨_,K8 _ g1 (Lw (Lq g3 _))⟩ ?_) h4)))
 ·refine ⟨?_,hd,?_,_,_,K8 _ g1 (Lw (Lq g3 _)),g2.mapDictKeys _,Lq g3 _,?_⟩
  ·exact Ka (List.length_eraseIdx_le ..) z
  ·exact nd.sublist ((List.eraseIdx_sublist _ _).map _)
  ·rw [Array.toList_eraseIdxIfInBounds];exact kL i g4
 ·refine Nat.le_succ_of_le ?_;rw [<- KG,Array.toList_eraseIdxIfInBounds,<-KG];exact List.length_eraseIdx_le ..
def CM (K:Fg):V->List V->Hp->VK->Prop:=fun o vs H Q=>∃ y k a ep xs j x,vs=[y]/\D2 K H o y k a ep xs/\xs[j]?=some x/\x.1=k/\FC k=true/\∀ ep',Q x.2.2 (upd H a (.dD ep' (xs.eraseIdx j)))
theorem As {Q:Value->Shared->Prop} {j:Nat} {x:PyData×V×V} (hu:A.units+8 < cLine) (I:Inv X pins σ H s) (e:H a=some (.dD ep xs)) (kr:fO s.heap xs) (hk:Reads s.heap u k as) (ky:kyB k=true) (hx:xs[j]?=some x) (hx1:x.1=k) (hp:keyPart u=none)
  (q:∀ ep' s' r,Inv X pins σ (upd H a (.dD ep' (xs.eraseIdx j))) s'->RelV x.2.2 r->Q r s'):wpAny (model X.prog X.w) A (call (.builtin "dict.pop") [.ref a,u]) Q E s:=by
 obtain ⟨T,hd⟩:=fi I e;obtain ⟨z,_,nd,o,es,g1,g2,g3,g4⟩:=(show aQ X.prog X.w H s.heap a (.dD ep xs) from I.hok _ _ e);have hsz:es.size=xs.length:=by rw [Lx g4];simp
 have hlt:j < xs.length:=(Js.mp hx).1;refine K1 PySem.F.slot_dict_pop T PySem.F.entry_dict_pop ?_ (PySem.F.args_dict_pop_2 _ _);unfold Builtin.«dict.pop»
 refine Jp ?_;unfold Builtin.Dict.keyAndDefault;refine Jp (wpAny_notOrdered_dict T ?_);show wpAny _ _ (pure (a,u,none)) _ _ s;refine Jw ?_;simp only [hp,Option.isSome_none,K5,Lh];refine Jp (La g1 g3 ?_);have he:es.isEmpty=false:=by cases q:es.isEmpty with | false=>rfl | true=>have:=Array.isEmpty_iff_size_eq_zero.mp q;omega
 refine Jp (Jw ?_);rw [Jz (by rw [he];exact JL)];refine Jp (qF (j:=j) (x:=x) (by have:A.in1.units=A.units+1:=rfl;omega) I e kr hk ky hx hx1 fun ep' s' en I' r'=>?_);simp only [Option.isNone_some,K5,Lh];exact Jp (wpAny_letGo (Jw ⟨en.val,rfl,q ep' s' _ I' r'⟩))
theorem yH (hu:X.A.units+64 < cLine):MtM X "dict.pop" (CM X.K):=by
 intro pins s σ H x vs v us Q I rx rv h;obtain ⟨y,k,a,ep,xs,j,x1,rfl,⟨F,kvs,rfl,ea,r,hk,hk6'⟩,hx,hx1,tp,q⟩:=h;obtain ⟨u,rfl,ru⟩:=rv.one;cases rx;obtain ⟨as,rk⟩:=hk.reads I (fI _ (cw.mp hk6').1) ru;have hp:keyPart u=none:=by
  cases k with
  | tuple ds=>cases rk;rfl
  | _=>cases tp
 exact As (by omega) I ea (pb I r) rk (o6 hk hk6') hx hx1 hp fun ep' s' r I' r'=>⟨_,_,I',r',q ep'⟩
end
theorem Ai {K:Fg} {F:Addr->Prop} {H:Hp}:∀ {ds:List (PyData×PyData)} {xs:List (PyData×V×V)} (j:Nat) {k d:PyData},DmP K F H ds xs->ds[j]?=some (k,d)->∃ jv v,xs[j]?=some (k,jv,v)/\Dm K F H d v/\hk6 k=true
 | [],_,_,_,_,_,e=>by simp at e
 | (k',d') :: ds,xs,0,k,d,h,e=>by
  obtain ⟨jv,v,r,rfl,h1,_,h2,_⟩:=h;cases (show some (k',d')=some (k,d) from by simpa using e);exact ⟨jv,v,rfl,h2,h1⟩
 | (k',d') :: ds,xs,j+1,k,d,h,e=>by
  obtain ⟨jv,v,r,rfl,_,_,_,h3⟩:=h;exact Ai j h3 (by simpa using e)
theorem B7 {K:Fg} {F:Addr->Prop} {H:Hp}:∀ {ds:List (PyData×PyData)} {xs:List (PyData×V×V)} (j:Nat),DmP K F H ds xs->DmP K F H (ds.eraseIdx j) (xs.eraseIdx j)
 | [],xs,j,h=>by rw [show xs=[] from h];rfl
 | (k',d') :: ds,xs,0,h=>by obtain ⟨jv,v,r,rfl,_,_,_,h3⟩:=h;exact h3
 | (k',d') :: ds,xs,j+1,h=>by obtain ⟨jv,v,r,rfl,h1,h2,h4,h3⟩:=h;exact ⟨jv,v,_,rfl,h1,h2,h4,B7 j h3⟩
noncomputable def EN:PyData->Bool | .dict _=>true | _=>false
noncomputable def uT:Mtr where
 T := "dict"
 r:=CM
 ty:=EN
 f:=fun d as=>match d,as with
  | .dict kvs,[(_,k)]=>if hk6 k=true/\FC k=true then (match kvs.findIdx? (fun kv=>PyData.eqv kv.1 k) with | some j=>(kvs[j]?).map fun kv=>(.dict (kvs.eraseIdx j),kv.2) | none=>none) else none
  | _,_=>none
 AR:=fun K F H d a h t=>by
  cases d with
  | dict kvs=>obtain ⟨ep,xs,e,_⟩:=t;exact .inr (.inr (.inl ⟨rfl,.inr (.inr ⟨ep,xs,e⟩)⟩))
  | _=>cases h
 ok:=fun K F H d a as vs d' x Q hf ha ht hv q=>by
  split at hf
  ·rename_i kvs b k;split at hf
   ·rename_i hh;split at hf
    ·rename_i j hj;obtain ⟨⟨k',d0⟩,e,hf⟩:=J7.mp hf;cases hf;obtain ⟨ep,xs,ea,z,r⟩:=ht;obtain ⟨y,rfl,hy⟩:∃ y,vs=[y]/\Vw K F H k y:=by
      cases b with
      | true=>obtain ⟨v,r,rfl,hv,rfl⟩:=hv;exact ⟨v,rfl,hv.vw⟩
      | false=>obtain ⟨v,r,rfl,hv,rfl⟩:=hv;exact ⟨v,rfl,hv⟩
     obtain ⟨jv,v,hx,hd,hk'⟩:=Ai j r e;have ek:k'=k:=by
      obtain ⟨h1,h2⟩:=List.findIdx?_eq_some_iff_getElem.mp hj;have e2:kvs[j]=(k',d0):=by rw [Jq h1] at e;exact Km e
      have:=h2.1;rw [e2] at this;exact (ee _ _ (cw.mp hk').1 (cw.mp hh.1).1).mp this
     refine ⟨y,k,a,ep,xs,j,(k',jv,v),rfl,⟨F,kvs,rfl,ea,r,hy,hh.1⟩,hx,ek,hh.2,fun ep'=>q _ _ (fun b o n e=>by rw [ai n];exact e) ?_ ?_⟩
     ·exact ⟨_,_,af,Ka (List.length_eraseIdx_le ..) z,(B7 j r).pr (rY ha ea rfl) fun _ z=>z⟩
     ·exact hd.pr (rY ha ea rfl) fun _ z=>z
    ·cases hf
   ·cases hf
  ·cases hf
end L2
end
set_option bootstrap.genMatcherCode true
section
namespace K09
open PySem PySem.Spec PyProof.Rows L2
noncomputable def top (i:Nat):Stmt:=PySem.Challenge.pw_webshapes_k09_facts_put_in_and_taken_out.main.body.getD i (.Pass ⟨0,0,0,0⟩)
noncomputable abbrev bH:Stmt:=top 9
noncomputable abbrev iq:Stmt:=top 10
noncomputable abbrev fN:Stmt:=top 11
noncomputable abbrev eT:Stmt:=top 12
noncomputable abbrev gX:Stmt:=top 13
noncomputable abbrev iD:Stmt:=top 14
noncomputable abbrev iG:Stmt:=top 15
noncomputable abbrev fz:Stmt:=top 16
noncomputable abbrev gW:Stmt:=top 18
noncomputable abbrev fJ:Stmt:=top 19
noncomputable abbrev bO:Stmt:=top 20
noncomputable abbrev cC:Stmt:=top 23
noncomputable abbrev ji:Stmt:=top 24
noncomputable abbrev bK:Stmt:=top 25
noncomputable abbrev jc:Stmt:=top 26
noncomputable abbrev cu:Stmt:=top 27
noncomputable abbrev sd:Stmt:=top 29
noncomputable abbrev nt:Stmt:=top 30
noncomputable abbrev ow:Stmt:=top 31
noncomputable abbrev nq:Stmt:=top 32
noncomputable abbrev bp:Stmt:=top 33
noncomputable abbrev tL:Stmt:=top 34
noncomputable abbrev oB:Stmt:=top 35
noncomputable abbrev iX:Stmt:=top 36
noncomputable abbrev ll:Stmt:=top 37
noncomputable abbrev nT:Stmt:=top 38
noncomputable abbrev tE:Stmt:=top 39
noncomputable abbrev nj:Stmt:=top 40
noncomputable abbrev l9:Stmt:=top 41
noncomputable def dfs:List (Str×Stmt×List Str):=[("are_letters", bH,["thing", "fewest"]),("is_name", iq,["thing"]),("is_whole", fN,["thing"]),("is_number", eT,["thing"]),("is_said", gX,["thing"]),("is_node", iD,["thing"]),("kind_of", iG,["node"]),("node_key", fz,["node"]),("is_fact", gW,["thing"]),("fact_key", fJ,["fact"]),("facts_in_order", bO,["facts"]),("are_facts", cC,["things"]),("web_of", ji,["facts"]),("refuse_no_fact", bK,["thing"]),("put_in", jc,["web", "fact"]),("taken_out", cu,["web", "fact"]),("_law_pen", sd,["_law_script"]),("_law_take", nt,["_law_pen_here", "_law_most"]),("_law_word", ow,["_law_pen_here", "_law_many"]),("_law_fact", nq,["_law_pen_here"]),("_law_many_facts", bp,["_law_pen_here"]),("_law_odd", tL,["_law_pen_here"]),("_law_sort", oB,["_law_node"]),("_law_before", iX,["_law_one", "_law_other"]),("_law_right", ll,["_law_web", "_law_known"]),("_law_done", nT,["_law_is_put", "_law_web", "_law_fact_here"]),("_law_due", tE,["_law_is_put", "_law_known", "_law_fact_here", "_law_is_odd"]),("_law_turn", nj,["_law_pen_here", "_law_web", "_law_known", "_law_pool"]),("law", l9,["_law_script"])]
structure Adr where
 f:Nat->Addr×FuncData
 ay:Addr
 aT:Addr
 aS:Addr
 aw:Addr
 aG:Addr
 fb:Tok
 lu:Tok
 iR:Tok
structure Txt (K:Fg) (mg:Str->Option Value) (t:Adr):Prop where
 d:∀ i {x st ps},dfs[i]?=some (x,st,ps)->Fa K mg x st ps (t.f i)
 z_ValueError:mg "ValueError" = none
 z_abs:mg "abs" = none
 z_all:mg "all" = none
 z_bool:mg "bool" = none
 z_int:mg "int" = none
 z_isinstance:mg "isinstance" = none
 z_len:mg "len" = none
 z_list:mg "list" = none
 z_range:mg "range" = none
 z_sorted:mg "sorted" = none
 z_str:mg "str" = none
 z_tuple:mg "tuple" = none
 g_GREATEST_NUMBER:mg "GREATEST_NUMBER" = some (Value.int 999999999999999999999999999999 t.fb)
 g_MOST_FACTS:mg "MOST_FACTS" = some (Value.int 400 t.lu)
 g_MOST_LETTERS:mg "MOST_LETTERS" = some (Value.int 8 t.iR)
 cN:mg "NoFact" = some (.ref t.ay)
 bG:iP K t.ay
 d5:mg "Twice" = some (.ref t.aT)
 cp:iP K t.aT
 c7:mg "NoWeb" = some (.ref t.aS)
 bL:iP K t.aS
 bV:mg "Missing" = some (.ref t.aw)
 bh:iP K t.aw
 jJ:mg "ShapeError" = some (.ref t.aG)
 jw:iP K t.aG
 mr_NoFact_ShapeError:PySem.W.mroIn K t.ay (.ref t.aG)=some true
 mr_Twice_ShapeError:PySem.W.mroIn K t.aT (.ref t.aG)=some true
 mr_NoWeb_ShapeError:PySem.W.mroIn K t.aS (.ref t.aG)=some true
 mr_Missing_ShapeError:PySem.W.mroIn K t.aw (.ref t.aG)=some true
 mv_NoFact:PySem.W.mroIn K t.ay (.type "ValueError")=some true
 mv_Twice:PySem.W.mroIn K t.aT (.type "ValueError")=some true
 mv_NoWeb:PySem.W.mroIn K t.aS (.type "ValueError")=some true
 mv_Missing:PySem.W.mroIn K t.aw (.type "ValueError")=some true
 kb_NoFact_Twice:PySem.W.kitOne K (.ref t.ay) (.ref t.aT)=some false
 kb_NoFact_NoWeb:PySem.W.kitOne K (.ref t.ay) (.ref t.aS)=some false
 kb_NoFact_Missing:PySem.W.kitOne K (.ref t.ay) (.ref t.aw)=some false
 kb_Twice_NoFact:PySem.W.kitOne K (.ref t.aT) (.ref t.ay)=some false
 kb_Twice_NoWeb:PySem.W.kitOne K (.ref t.aT) (.ref t.aS)=some false
 kb_Twice_Missing:PySem.W.kitOne K (.ref t.aT) (.ref t.aw)=some false
 kb_NoWeb_NoFact:PySem.W.kitOne K (.ref t.aS) (.ref t.ay)=some false
 kb_NoWeb_Twice:PySem.W.kitOne K (.ref t.aS) (.ref t.aT)=some false
 kb_NoWeb_Missing:PySem.W.kitOne K (.ref t.aS) (.ref t.aw)=some false
 kb_Missing_NoFact:PySem.W.kitOne K (.ref t.aw) (.ref t.ay)=some false
 kb_Missing_Twice:PySem.W.kitOne K (.ref t.aw) (.ref t.aT)=some false
 kb_Missing_NoWeb:PySem.W.kitOne K (.ref t.aw) (.ref t.aS)=some false
theorem iQ:ag ["thing", "fewest"] ["thing", "fewest"] (aa bH):=scm
theorem oZ:ag ["thing"] ["thing"] (aa iq):=scm
theorem lV:ag ["thing"] ["thing"] (aa fN):=scm
theorem lG:ag ["thing"] ["thing"] (aa eT):=scm
theorem pB:ag ["thing"] ["thing"] (aa gX):=scm
theorem pz:ag ["thing"] ["thing"] (aa iD):=scm
theorem o4:ag ["node"] ["node"] (aa iG):=scm
theorem iH:ag ["node", "kind"] ["node"] (aa fz):=scm
theorem pq:ag ["thing"] ["thing"] (aa gW):=scm
theorem mK:ag ["fact"] ["fact"] (aa fJ):=scm
theorem bf:ag ["facts", "once", "fact"] ["facts"] (aa bO):=scm
theorem ki:ag ["things"] ["things"] (aa cC):=scm
theorem kE:ag ["facts", "web"] ["facts"] (aa ji):=scm
theorem fc:ag ["thing"] ["thing"] (aa bK):=scm
theorem qW:ag ["web", "fact"] ["web", "fact"] (aa jc):=scm
theorem kG:ag ["web", "fact"] ["web", "fact"] (aa cu):=scm
theorem BI:ag ["_law_script"] ["_law_script"] (aa sd):=scm
theorem cX:ag ["_law_pen_here", "_law_most", "_law_at", "_law_cell", "_law_n", "_law_found"] ["_law_pen_here", "_law_most"] (aa nt):=scm
theorem mC:ag ["_law_pen_here", "_law_many", "_law_word_here"] ["_law_pen_here", "_law_many"] (aa ow):=scm
theorem qr:ag ["_law_pen_here", "_law_node"] ["_law_pen_here"] (aa nq):=scm
theorem bx:ag ["_law_pen_here", "_law_letters", "_law_turn_here", "_law_ways"] ["_law_pen_here"] (aa bp):=scm
theorem lq:ag ["_law_pen_here", "_law_bad", "_law_end", "_law_some"] ["_law_pen_here"] (aa tL):=scm
theorem xy:ag ["_law_node"] ["_law_node"] (aa oB):=scm
theorem t8:ag ["_law_one", "_law_other"] ["_law_one", "_law_other"] (aa iX):=scm
theorem nC:ag ["_law_web", "_law_known", "_law_k"] ["_law_web", "_law_known"] (aa ll):=scm
theorem fu:ag ["_law_is_put", "_law_web", "_law_fact_here", "_law_found", "_law_words", "_ex"] ["_law_is_put", "_law_web", "_law_fact_here"] (aa nT):=scm
theorem Dl:ag ["_law_is_put", "_law_known", "_law_fact_here", "_law_is_odd"] ["_law_is_put", "_law_known", "_law_fact_here", "_law_is_odd"] (aa tE):=scm
theorem cB:ag ["_law_pen_here", "_law_web", "_law_known", "_law_pool", "_law_is_put", "_law_is_odd", "_law_fact_here", "_law_kept", "_law_due_here", "_law_found"] ["_law_pen_here", "_law_web", "_law_known", "_law_pool"] (aa nj):=scm
theorem dG:ag ["_law_script", "_law_pen_here", "_law_facts", "_law_known", "_law_fact_here", "_law_web", "_law_pool", "_law_k"] ["_law_script"] (aa l9):=scm
noncomputable def gds:List PyData:=[]
noncomputable def gav (t:Adr):Nat->V:=fun g=>([]:List V)[g]?.getD .non
theorem aZ {K:Fg} {mg:Str->Option Value} {t:Adr} (T:Txt K mg t):∀ g d,gds[g]?=some d->∀ F H,Dm K F H d (gav t g):=by
 intro g d h F H;cases h
noncomputable def dC:XS :=
 (.seq (.ifs (.or (.not (.tst (p1 (lQ "str") (vr 0)))) (.not (.tst (.chn leP leP (vr 1) (p1 ko (vr 0)) (ci 8))))) (.ret (.cst (.b false))) .skip)
  (.ret (p1 DK (.cmp [] (.str (vr 0)) .yes (.chn leP leP (cs "a") (vr 0) (cs "z"))))))
noncomputable def bj:Fn:=cM gds [.dat,.dat] 2 dC
def iT (K:Fg):Sp:=cE bj K
noncomputable def jf:XS :=
 (.ret (.call bj (.cons (vr 0) (.cons (ci 1) .nil))))
noncomputable def bT:Fn:=cM gds [.dat] 1 jf
def oN (K:Fg):Sp:=cE bT K
noncomputable def iJ:XS :=
 (.ret (.uj (p1 (lQ "int") (vr 0)) (.xK (p1 (lQ "bool") (vr 0)))))
noncomputable def dR:Fn:=cM gds [.dat] 1 iJ
def lP (K:Fg):Sp:=cE dR K
noncomputable def fG:XS :=
 (.ret (.uj (.call dR (.cons (vr 0) .nil)) (p2 leP (p1 DI (vr 0)) (ci 999999999999999999999999999999))))
noncomputable def cW:Fn:=cM gds [.dat] 1 fG
def kI (K:Fg):Sp:=cE cW K
noncomputable def je:XS :=
 (.ret (.uj (p1 (lQ "tuple") (vr 0)) (.uj (p2 eqP (p1 ko (vr 0)) (ci 1)) (.call bj (.cons (p2 ixP (vr 0) (ci 0)) (.cons (ci 0) .nil))))))
noncomputable def fk:Fn:=cM gds [.dat] 1 je
def oV (K:Fg):Sp:=cE fk K
noncomputable def i0:XS :=
 (.ret (.orv (.call bT (.cons (vr 0) .nil)) (.orv (.call cW (.cons (vr 0) .nil)) (.call fk (.cons (vr 0) .nil)))))
noncomputable def fy:Fn:=cM gds [.dat] 1 i0
def o9 (K:Fg):Sp:=cE fy K
noncomputable def i6:XS :=
 (.seq (.ifs (.tst (p1 (lQ "str") (vr 0))) (.ret (cs "thing")) .skip)
  (.seq (.ifs (.tst (p1 (lQ "tuple") (vr 0))) (.ret (cs "said")) .skip)
  (.ret (cs "number"))))
noncomputable def fw:Fn:=cM gds [.dat] 1 i6
def o5 (K:Fg):Sp:=cE fw K
noncomputable def iy:XS :=
 (.seq (.bz 1 (.call fw (.cons (vr 0) .nil)))
  (.seq (.ifs (.tst (p2 eqP (vr 1) (cs "number"))) (.ret (.tup (.cons (ci 0) (.cons (vr 0) (.cons (cs "") .nil))))) .skip)
  (.seq (.ifs (.tst (p2 eqP (vr 1) (cs "said"))) (.ret (.tup (.cons (ci 1) (.cons (ci 0) (.cons (p2 ixP (vr 0) (ci 0)) .nil))))) .skip)
  (.ret (.tup (.cons (ci 2) (.cons (ci 0) (.cons (vr 0) .nil))))))))
noncomputable def dX:Fn:=cM gds [.dat] 2 iy
def mI (K:Fg):Sp:=cE dX K
noncomputable def i8:XS :=
 (.seq (.ifs (.or (.not (.tst (p1 (lQ "tuple") (vr 0)))) (.tst (p2 neP (p1 ko (vr 0)) (ci 3)))) (.ret (.cst (.b false))) .skip)
  (.ret (.uj (.call bT (.cons (p2 ixP (vr 0) (ci 0)) .nil)) (.uj (.call bT (.cons (p2 ixP (vr 0) (ci 1)) .nil)) (.call fy (.cons (p2 ixP (vr 0) (ci 2)) .nil))))))
noncomputable def dh:Fn:=cM gds [.dat] 1 i8
def oD (K:Fg):Sp:=cE dh K
noncomputable def hZ:XS :=
 (.ret (.tup (.cons (p2 ixP (vr 0) (ci 0)) (.cons (p2 ixP (vr 0) (ci 1)) (.cons (.call dX (.cons (p2 ixP (vr 0) (ci 2)) .nil)) .nil)))))
noncomputable def bA:Fn:=cM gds [.dat] 1 hZ
def mT (K:Fg):Sp:=cE bA K
noncomputable def bg:XS :=
 (.seq (.u0 1 (.prm yr .nil))
  (.seq (.fr 2 (.sq (vr 0)) (.sto kU 1 (vr 2) (.cst (.b true))))
  (.ret (p1 (Sg.n0 fyS bA rfl) (vr 1)))))
noncomputable def aL:Fn:=cM gds [.dat] 3 bg
def fe (K:Fg):Sp:=cE aL K
noncomputable def cV:XS :=
 (.ret (p1 DK (.cmp [] (.sq (vr 0)) .yes (.call dh (.cons (vr 0) .nil)))))
noncomputable def bN:Fn:=cM gds [.dat] 1 cV
def kK (K:Fg):Sp:=cE bN K
noncomputable def iB:XS :=
 (.seq (.ifs (.or (.not (.tst (p1 CW (vr 0)))) (.not (.tst (.call bN (.cons (vr 0) .nil))))) (.ret (ci 3)) .skip)
  (.seq (.bz 1 (p1 rm (.call aL (.cons (vr 0) .nil))))
  (.seq (.ifs (.tst (p2 gtP (p1 ko (vr 1)) (ci 400))) (.ret (ci 3)) .skip)
  (.ret (p1 niP (vr 1))))))
noncomputable def cQ:Fn:=cM gds [.dat] 2 iB
noncomputable def cb:XS :=
 (.seq (.ifs (.not (.tst (.call dh (.cons (vr 0) .nil)))) (.ret (ci 1)) .skip)
  .skip)
noncomputable def aK:Fn:=cM gds [.dat] 1 cb
noncomputable def eO:XS :=
 (.seq (.ifs (.tst (p1 (jK 1) (.call aK (.cons (vr 1) .nil)))) (.ret (ci 1)) .skip)
  (.seq (.ifs (.tst (p2 inP (vr 1) (vr 0))) (.ret (ci 2)) .skip)
  (.ret (.call cQ (.cons (p2 yy (vr 0) (.tup (.cons (vr 1) .nil))) .nil)))))
noncomputable def bZ:Fn:=cM gds [.dat,.dat] 2 eO
noncomputable def bM:XS :=
 (.seq (.ifs (.tst (p1 (jK 1) (.call aK (.cons (vr 1) .nil)))) (.ret (ci 1)) .skip)
  (.seq (.ifs (.tst (p2 pW (vr 1) (vr 0))) (.ret (ci 4)) .skip)
  (.ret (p1 niP (p1 rm (.cmp [1] (.tup (vr 0)) (.tst (p2 neP (vr 0) (vr 1))) (vr 0)))))))
noncomputable def aV:Fn:=cM gds [.dat,.dat] 2 bM
noncomputable def CO:XS :=
 (.ret (.dsp (.cons (cs "script") (vr 0) (.cons (cs "at") (ci 0) (.cons (cs "left") (ci 0) .nil)))))
noncomputable def tN:Fn:=cM gds [.dat] 1 CO
def Ca (K:Fg):Sp:=cE tN K
noncomputable def q8:XS :=
 (.seq (.bz 2 (p2 jG (vr 0) (cs "at")))
  (.seq (.ifs (.tst (p2 eqP (p2 jG (vr 0) (cs "left")) (ci 0))) (.seq (.sto kU 0 (cs "at") (p2 lK (vr 2) (ci 1)))
  (.seq (.bz 3 (ci 1949))
  (.seq (.ifs (.tst (p2 gtP (p1 ko (p2 jG (vr 0) (cs "script"))) (ci 0))) (.bz 3 (p2 ixP (p2 jG (vr 0) (cs "script")) (p2 uv (vr 2) (p1 ko (p2 jG (vr 0) (cs "script")))))) .skip)
  (.seq (.ifs (.or (.tst (p2 geP (vr 2) (p1 ko (p2 jG (vr 0) (cs "script"))))) (.tst (p2 ltP (p1 DI (vr 3)) (p2 DS (ci 10) (ci 18))))) (.seq (.bz 3 (p2 lK (p2 lK (p2 uv (vr 3) (ci 2147483423)) (p2 vX (ci 141650963) (vr 2))) (ci 907)))
  (.seq (.bz 4 (p2 uv (p2 vX (vr 3) (ci 69621)) (ci 2147483647)))
  (.seq (.bz 4 (p2 uv (p2 lK (p2 lK (p2 vX (vr 4) (vr 4)) (p2 vX (ci 2003) (vr 4))) (p2 vX (ci 49979711) (vr 2))) (ci 2147483579)))
  (.ret (p2 uv (p2 uH (p2 uv (p2 vX (vr 4) (ci 16807)) (ci 2147483629)) (ci 31)) (vr 1)))))) .skip)
  (.sto kU 0 (cs "left") (p1 DI (vr 3))))))) .skip)
  (.seq (.bz 5 (p2 uv (p2 jG (vr 0) (cs "left")) (vr 1)))
  (.seq (.sto kU 0 (cs "left") (p2 uH (p2 jG (vr 0) (cs "left")) (vr 1)))
  (.ret (vr 5))))))
noncomputable def ax:Fn:=cM gds [.ino,.dat] 6 q8
def zp (K:Fg):Sp:=cE ax K
noncomputable def tj:XS :=
 (.seq (.bz 2 (p2 ixP (.lst (.cons (cs "") (.cons (cs "") (.cons (cs "") (.cons (p2 ixP (.lst (.cons (cs "any") (.cons (cs "keeps") (.cons (cs "least") (.cons (cs "is") (.cons (cs "all") (.cons (cs "many") .nil))))))) (.call ax (.cons (vr 0) (.cons (ci 6) .nil)))) .nil))))) (.call ax (.cons (vr 0) (.cons (ci 4) .nil)))))
  (.seq (.wh 100 (.tst (p2 ltP (p1 ko (vr 2)) (vr 1))) (.bz 2 (p2 lK (vr 2) (p2 ixP (cs "abcdefghijklmnopqrstuvwxyz") (.call ax (.cons (vr 0) (.cons (ci 26) .nil)))))))
  (.ret (p2 zS (vr 2) (vr 1)))))
noncomputable def gu:Fn:=cM gds [.ino,.dat] 3 tj
def yI (K:Fg):Sp:=cE gu K
noncomputable def rZ:XS :=
 (.seq (.bz 1 (p2 ixP (.lst (.cons (p2 Ga (.call ax (.cons (vr 0) (.cons (ci 5) .nil))) (ci 2)) (.cons (.tup (.cons (.call gu (.cons (vr 0) (.cons (.call ax (.cons (vr 0) (.cons (ci 3) .nil))) .nil))) .nil)) (.cons (.call gu (.cons (vr 0) (.cons (ci 2) .nil))) .nil)))) (.call ax (.cons (vr 0) (.cons (ci 3) .nil)))))
  (.ret (.tup (.cons (p2 ixP (.lst (.cons (cs "a") (.cons (cs "b") (.cons (cs "ab") (.cons (.call gu (.cons (vr 0) (.cons (ci 8) .nil))) .nil))))) (.call ax (.cons (vr 0) (.cons (ci 4) .nil)))) (.cons (p2 ixP (.lst (.cons (cs "a") (.cons (cs "c") .nil))) (.call ax (.cons (vr 0) (.cons (ci 2) .nil)))) (.cons (vr 1) .nil))))))
noncomputable def jR:Fn:=cM gds [.ino] 2 rZ
def xG (K:Fg):Sp:=cE jR K
noncomputable def dY:XS :=
 (.seq (.bz 1 (cs "abcdefghijklmnopqrst"))
  (.seq (.bz 2 (.call ax (.cons (vr 0) (.cons (ci 400) .nil))))
  (.seq (.bz 3 (.cmp [2] (.rng1 (.cons (p2 lK (ci 398) (.call ax (.cons (vr 0) (.cons (ci 3) .nil)))) .nil)) .yes (p2 uv (p2 vX (ci 9) (p2 lK (vr 0) (vr 1))) (ci 400))))
  (.ret (.cmp [1] (.lst (vr 3)) .yes (.tup (.cons (p2 lK (cs "x") (p2 ixP (vr 1) (p2 uH (vr 0) (ci 20)))) (.cons (cs "b") (.cons (p2 ixP (vr 1) (p2 uv (vr 0) (ci 20))) .nil)))))))))
noncomputable def cz:Fn:=cM gds [.ino] 4 dY
def jE (K:Fg):Sp:=cE cz K
noncomputable def wR:XS :=
 (.seq (.bz 1 (p2 ixP (.lst (.cons (cs "") (.cons (cs "abcdefghi") (.cons (cs "Ab") (.cons (cs "a b") (.cons (.cst .n) (.cons (ci 5) (.cons (.cst (.b true)) (.cons (.tup (.cons (cs "a") .nil)) .nil))))))))) (.call ax (.cons (vr 0) (.cons (ci 8) .nil)))))
  (.seq (.bz 2 (p2 ixP (.lst (.cons (cs "") (.cons (cs "Ab") (.cons (p2 DS (ci 10) (ci 30)) (.cons (p1 HP (p2 DS (ci 10) (ci 30))) (.cons (.cst (.b true)) (.cons (.cst .n) (.cons (.tup (.cons (cs "A") .nil)) (.cons (.tup (.cons (cs "a") (.cons (cs "b") .nil))) (.cons (.lst (.cons (cs "a") .nil)) .nil)))))))))) (.call ax (.cons (vr 0) (.cons (ci 9) .nil)))))
  (.seq (.bz 3 (.lst (.cons (.tup (.cons (vr 1) (.cons (cs "b") (.cons (ci 1) .nil)))) (.cons (.tup (.cons (cs "a") (.cons (vr 1) (.cons (ci 1) .nil)))) (.cons (.tup (.cons (cs "a") (.cons (cs "b") (.cons (vr 2) .nil)))) (.cons (.tup (.cons (cs "a") (.cons (cs "b") .nil))) (.cons (.tup (.cons (cs "a") (.cons (cs "b") (.cons (ci 1) (.cons (ci 1) .nil))))) (.cons (.lst (.cons (cs "a") (.cons (cs "b") (.cons (ci 1) .nil)))) (.cons (.tup .nil) (.cons (.cst .n) .nil))))))))))
  (.seq (.bz 3 (p2 lK (vr 3) (.lst (.cons (ci 7) (.cons (cs "a b 1") (.cons (.prm yr .nil) (.cons (.lst (.cons (.tup (.cons (cs "a") (.cons (cs "b") (.cons (ci 1) .nil)))) .nil)) .nil)))))))
  (.ret (p2 ixP (vr 3) (.call ax (.cons (vr 0) (.cons (p1 ko (vr 3)) .nil)))))))))
noncomputable def qL:Fn:=cM gds [.ino] 4 wR
def AB (K:Fg):Sp:=cE qL K
noncomputable def rB:XS :=
 (.seq (.ifs (.tst (p1 (lQ "str") (vr 0))) (.ret (ci 2)) .skip)
  (.ret (p1 ED (p1 (lQ "tuple") (vr 0)))))
noncomputable def fj:Fn:=cM gds [.dat] 1 rB
def zy (K:Fg):Sp:=cE fj K
noncomputable def ka:XS :=
 (.seq (.ifs (.tst (p2 neP (p2 zS (vr 0) (ci 2)) (p2 zS (vr 1) (ci 2)))) (.ret (p2 xu (p2 zS (vr 0) (ci 2)) (p2 zS (vr 1) (ci 2)))) .skip)
  (.seq (.ifs (.tst (p2 neP (.call fj (.cons (p2 ixP (vr 0) (ci 2)) .nil)) (.call fj (.cons (p2 ixP (vr 1) (ci 2)) .nil)))) (.ret (p2 xu (.call fj (.cons (p2 ixP (vr 0) (ci 2)) .nil)) (.call fj (.cons (p2 ixP (vr 1) (ci 2)) .nil)))) .skip)
  (.ret (p2 xu (p2 ixP (vr 0) (ci 2)) (p2 ixP (vr 1) (ci 2))))))
noncomputable def gr:Fn:=cM gds [.dat,.dat] 2 ka
def qm (K:Fg):Sp:=cE gr K
noncomputable def nA:XS :=
 (.seq (.ifs (.or (.not (.tst (p1 (lQ "tuple") (vr 0)))) (.tst (p2 neP (p1 ko (vr 0)) (p1 yG (vr 1))))) (.ret (.cst (.b false))) .skip)
  (.seq (.fr 2 (.rng1 (.cons (p1 ko (vr 0)) .nil)) (.seq (.ifs (.or (.not (.tst (p1 (lQ "tuple") (p2 ixP (vr 0) (vr 2))))) (.or (.tst (p2 (tq true) (p2 ixP (vr 0) (vr 2)) (vr 1))) (.tst (p1 (lQ "bool") (p2 ixP (p2 ixP (vr 0) (vr 2)) (ci 2)))))) (.ret (.cst (.b false))) .skip)
  (.ifs (.and (.tst (p2 gtP (vr 2) (ci 0))) (.not (.tst (.call gr (.cons (p2 ixP (vr 0) (p2 Ga (vr 2) (ci 1))) (.cons (p2 ixP (vr 0) (vr 2)) .nil)))))) (.ret (.cst (.b false))) .skip)))
  (.ret (.cst (.b true)))))
noncomputable def jF:Fn:=cM gds [.dat,.bor] 3 nA
def vm (K:Fg):Sp:=cE jF K
noncomputable def qi:XS :=
 (.seq (.bz 3 (.lst .nil))
  (.seq (.seq (.ifs (.tst (vr 0)) (.bz 5 (.call bZ (.cons (vr 1) (.cons (vr 2) .nil)))) (.bz 5 (.call aV (.cons (vr 1) (.cons (vr 2) .nil))))) (.ifs (.tst (p1 (jK 1) (vr 5))) (.seq (.bz 4 (.prm (nV ["fact"] (by decide +kernel) (by decide)) .nil)) (.bz 3 (.lst (.cons (cs "refused") (.cons (vr 4) (.cons (.cst (.b true)) .nil)))))) (.ifs (.tst (p1 (jK 2) (vr 5))) (.seq (.bz 4 (.prm (nV ["twice"] (by decide +kernel) (by decide)) .nil)) (.bz 3 (.lst (.cons (cs "refused") (.cons (vr 4) (.cons (.cst (.b true)) .nil)))))) (.ifs (.tst (p1 (jK 3) (vr 5))) (.seq (.bz 4 (.prm (nV ["web"] (by decide +kernel) (by decide)) .nil)) (.bz 3 (.lst (.cons (cs "refused") (.cons (vr 4) (.cons (.cst (.b true)) .nil)))))) (.ifs (.tst (p1 (jK 4) (vr 5))) (.seq (.bz 4 (.prm (nV ["missing"] (by decide +kernel) (by decide)) .nil)) (.bz 3 (.lst (.cons (cs "refused") (.cons (vr 4) (.cons (.cst (.b true)) .nil)))))) (.bz 3 (.lst (.cons (cs "web") (.cons (vr 5) .nil)))))))))
  (.ret (vr 3))))
noncomputable def gK:Fn:=cM gds [.dat,.dat,.dat] 6 qi
def xO (K:Fg):Sp:=cE gK K
noncomputable def nS:XS :=
 (.seq (.ifs (.tst (vr 3)) (.ret (cs "fact")) .skip)
  (.seq (.ifs (.and (.tst (vr 0)) (.tst (p2 (tq false) (vr 2) (vr 1)))) (.ret (cs "twice")) .skip)
  (.seq (.ifs (.and (.tst (vr 0)) (.tst (p2 eqP (p1 yG (vr 1)) (ci 400)))) (.ret (cs "web")) .skip)
  (.seq (.ifs (.and (.not (.tst (vr 0))) (.tst (p2 (tq true) (vr 2) (vr 1)))) (.ret (cs "missing")) .skip)
  (.ret (cs ""))))))
noncomputable def iW:Fn:=cM gds [.dat,.bor,.dat,.dat] 4 nS
def CK (K:Fg):Sp:=cE iW K
noncomputable def fq:XS :=
 (.seq (.bz 4 (p2 eqP (.call ax (.cons (vr 0) (.cons (ci 2) .nil))) (ci 0)))
  (.seq (.bz 5 (p2 eqP (.call ax (.cons (vr 0) (.cons (ci 5) .nil))) (ci 0)))
  (.seq (.bz 6 (p2 ixP (vr 3) (.call ax (.cons (vr 0) (.cons (p1 ko (vr 3)) .nil)))))
  (.seq (.ifs (.tst (p2 eqP (.call ax (.cons (vr 0) (.cons (ci 3) .nil))) (ci 0))) (.bz 6 (.call jR (.cons (vr 0) .nil))) .skip)
  (.seq (.ifs (.tst (vr 5)) (.bz 6 (.call qL (.cons (vr 0) .nil))) (.drop (.mtr Hi 3 (.cons (vr 6) .nil))))
  (.seq (.bz 7 (p1 zt (vr 1)))
  (.seq (.bz 8 (.call iW (.cons (vr 4) (.cons (vr 2) (.cons (vr 6) (.cons (vr 5) .nil))))))
  (.seq (.bz 9 (.call gK (.cons (vr 4) (.cons (vr 1) (.cons (vr 6) .nil)))))
  (.seq (.ifs (.tst (p2 neP (p1 zt (vr 1)) (vr 7))) (.ret (.cst .n)) .skip)
  (.seq (.ifs (.tst (p2 neP (vr 8) (cs ""))) (.ret (p2 ixP (.lst (.cons (.cst .n) (.cons (vr 1) .nil))) (p1 ED (p2 eqP (vr 9) (.lst (.cons (cs "refused") (.cons (.lst (.cons (vr 8) .nil)) (.cons (.cst (.b true)) .nil)))))))) .skip)
  (.seq (.ifs (.tst (vr 4)) (.sto kU 2 (vr 6) (.cst (.b true))) (.drop (.mtr uT 2 (.cons (vr 6) .nil))))
  (.seq (.ifs (.or (.tst (p2 neP (p2 ixP (vr 9) (ci 0)) (cs "web"))) (.not (.tst (.call jF (.cons (p2 ixP (vr 9) (ci 1)) (.cons (vr 2) .nil)))))) (.ret (.cst .n)) .skip)
  (.seq (.ifs (.tst (p2 neP (.call gK (.cons (.xK (vr 4)) (.cons (p2 ixP (vr 9) (ci 1)) (.cons (vr 6) .nil)))) (.lst (.cons (cs "web") (.cons (vr 1) .nil))))) (.ret (.cst .n)) .skip)
  (.ret (p2 ixP (vr 9) (ci 1))))))))))))))))
noncomputable def mh:Fn:=cM gds [.ino,.dat,.ino,.ino] 10 fq
def zD (K:Fg):Sp:=cE mh K
noncomputable def wM:XS :=
 (.seq (.u0 1 (.call tN (.cons (vr 0) .nil)))
  (.seq (.bz 2 (.cmp [1] (.rng1 (.cons (.call ax (.cons (vr 1) (.cons (ci 21) .nil))) .nil)) .yes (.call jR (.cons (vr 1) .nil))))
  (.seq (.ifs (.tst (p2 eqP (.call ax (.cons (vr 1) (.cons (ci 6) .nil))) (ci 0))) (.bz 2 (.call cz (.cons (vr 1) .nil))) .skip)
  (.seq (.u0 3 (.prm yr .nil))
  (.seq (.fr 4 (.lst (vr 2)) (.sto kU 3 (vr 4) (.cst (.b true))))
  (.seq (.bz 5 (p1 niP (.call cQ (.cons (vr 2) .nil))))
  (.seq (.u0 6 (p2 lK (vr 2) (.lst (.cons (.tup (.cons (cs "a") (.cons (cs "b") (.cons (ci 0) .nil)))) .nil))))
  (.seq (.fr 7 (.rng1 (.cons (p2 lK (ci 1) (.call ax (.cons (vr 1) (.cons (ci 16) .nil)))) .nil)) (.seq (.bz 5 (.call mh (.cons (vr 1) (.cons (vr 5) (.cons (vr 3) (.cons (vr 6) .nil))))))
  (.ifs (.tst (p2 isP (vr 5) (.cst .n))) (.ret (.cst (.b false))) .skip)))
  (.ret (.cst (.b true)))))))))))
noncomputable def we:Fn:=cM gds [.dat] 8 wM
def qA (K:Fg):Sp:=cE we K
section
variable (P:Program) (w:World) (K:Fg) (mg:Str->Option Value) (base:Heap) (t:Adr)
abbrev cj:=br P w K mg base CX0 1 (t.f 0).1 (t.f 0).2 ["thing", "fewest"] (iT K)
abbrev gF:=br P w K mg base CX0 2 (t.f 1).1 (t.f 1).2 ["thing"] (oN K)
abbrev jk:=br P w K mg base CX0 1 (t.f 2).1 (t.f 2).2 ["thing"] (lP K)
abbrev gN:=br P w K mg base CX0 2 (t.f 3).1 (t.f 3).2 ["thing"] (kI K)
abbrev lx:=br P w K mg base CX0 2 (t.f 4).1 (t.f 4).2 ["thing"] (oV K)
abbrev lj:=br P w K mg base CX0 3 (t.f 5).1 (t.f 5).2 ["thing"] (o9 K)
abbrev lh:=br P w K mg base CX0 1 (t.f 6).1 (t.f 6).2 ["node"] (o5 K)
abbrev i4:=br P w K mg base CX0 2 (t.f 7).1 (t.f 7).2 ["node"] (mI K)
abbrev g9:=br P w K mg base CX0 4 (t.f 8).1 (t.f 8).2 ["thing"] (oD K)
abbrev i7:=br P w K mg base CX0 3 (t.f 9).1 (t.f 9).2 ["fact"] (mT K)
abbrev cG:=br P w K mg base CX0 6 (t.f 10).1 (t.f 10).2 ["facts"] (fe K)
abbrev gL:=br P w K mg base CX0 5 (t.f 11).1 (t.f 11).2 ["things"] (kK K)
noncomputable abbrev jD:=br P w K mg base (CX1 P w) 7 (t.f 12).1 (t.f 12).2 ["facts"] (spC cQ [(1,t.ay),(2,t.aT),(3,t.aS),(4,t.aw)] K)
noncomputable abbrev bt:=br P w K mg base (CX1 P w) 5 (t.f 13).1 (t.f 13).2 ["thing"] (spC aK [(1,t.ay)] K)
noncomputable abbrev n5:=br P w K mg base (CX1 P w) 8 (t.f 14).1 (t.f 14).2 ["web", "fact"] (spC bZ [(1,t.ay),(2,t.aT),(3,t.aS),(4,t.aw)] K)
noncomputable abbrev gJ:=br P w K mg base (CX1 P w) 6 (t.f 15).1 (t.f 15).2 ["web", "fact"] (spC aV [(1,t.ay),(2,t.aT),(3,t.aS),(4,t.aw)] K)
abbrev BS:=br P w K mg base CX0 1 (t.f 16).1 (t.f 16).2 ["_law_script"] (Ca K)
abbrev gz:=br P w K mg base CX0 1 (t.f 17).1 (t.f 17).2 ["_law_pen_here", "_law_most"] (zp K)
abbrev wt:=br P w K mg base CX0 2 (t.f 18).1 (t.f 18).2 ["_law_pen_here", "_law_many"] (yI K)
abbrev qz:=br P w K mg base CX0 3 (t.f 19).1 (t.f 19).2 ["_law_pen_here"] (xG K)
abbrev fC:=br P w K mg base CX0 2 (t.f 20).1 (t.f 20).2 ["_law_pen_here"] (jE K)
abbrev Bo:=br P w K mg base CX0 2 (t.f 21).1 (t.f 21).2 ["_law_pen_here"] (AB K)
abbrev wm:=br P w K mg base CX0 1 (t.f 22).1 (t.f 22).2 ["_law_node"] (zy K)
abbrev mW:=br P w K mg base CX0 2 (t.f 23).1 (t.f 23).2 ["_law_one", "_law_other"] (qm K)
abbrev qO:=br P w K mg base CX0 3 (t.f 24).1 (t.f 24).2 ["_law_web", "_law_known"] (vm K)
abbrev wx:=br P w K mg base CX0 9 (t.f 25).1 (t.f 25).2 ["_law_is_put", "_law_web", "_law_fact_here"] (xO K)
abbrev BH:=br P w K mg base CX0 1 (t.f 26).1 (t.f 26).2 ["_law_is_put", "_law_known", "_law_fact_here", "_law_is_odd"] (CK K)
abbrev wy:=br P w K mg base CX0 10 (t.f 27).1 (t.f 27).2 ["_law_pen_here", "_law_web", "_law_known", "_law_pool"] (zD K)
abbrev GK:=br P w K mg base CX0 11 (t.f 28).1 (t.f 28).2 ["_law_script"] (qA K)
end
section
variable {P:Program} {w:World} {K:Fg} {mg:Str->Option Value} {base:Heap} {t:Adr} {n:Nat} {cdv:Value} {A:Around} {outer:List Env} {s:Shared} {H:Hp} {E:XK}
theorem iS (T:Txt K mg t):cj P w K mg base t :=
 (T.d 0 rfl).ok iQ (aZ T) fun hr=>aP (eZ (eW (xa (gO (eUx (eIz T.z_isinstance (eVx 0) T.z_str))) (mz (gO (xQ ku ku (eVx 1) (eBs bu T.z_len (eAx (eVx 0) aj)) (xm (v:=.int 8) rfl T.g_MOST_LETTERS ⟨_,rfl⟩ rfl) (by with_unfolding_all rfl)))))) (aX (bD eBl)) fF) (aX (bD (eBs (tM rfl) T.z_all (eAx (eKx [] (eIS (eVx 0)) eT0 (eC fun _ _ _ _=>(AS ku ku aB (eVx 0) aB (by with_unfolding_all rfl))) (bsc (sc:=aa bH) rfl (by decide +kernel)) trivial) aj))))
theorem pM (T:Txt K mg t) (G0:cj P w K mg base t):gF P w K mg base t :=
 (T.d 1 rfl).ok oZ (aZ T) fun hr=>aX (bD (eCx G0 hr (T.d 0 rfl) (eAx (eVx 0) (eAx au aj))))
theorem mV (T:Txt K mg t):jk P w K mg base t :=
 (T.d 2 rfl).ok lV (aZ T) fun hr=>aX (bD (zE (eIz T.z_isinstance (eVx 0) T.z_int) (zV (Hm (eIz T.z_isinstance (eVx 0) T.z_bool)))))
theorem kA (T:Txt K mg t) (G2:jk P w K mg base t):gN P w K mg base t :=
 (T.d 3 rfl).ok lG (aZ T) fun hr=>aX (bD (zE (eCx G2 hr (T.d 2 rfl) (eAx (eVx 0) aj)) (zV (wA ku (eBs mn T.z_abs (eAx (eVx 0) aj)) (xm (v:=.int 999999999999999999999999999999) rfl T.g_GREATEST_NUMBER ⟨_,rfl⟩ rfl) (eE _)))))
theorem oY (T:Txt K mg t) (G0:cj P w K mg base t):lx P w K mg base t :=
 (T.d 4 rfl).ok pB (aZ T) fun hr=>aX (bD (zE (eIz T.z_isinstance (eVx 0) T.z_tuple) (zE (wA (dt hr.units) (eBs bu T.z_len (eAx (eVx 0) aj)) au (eE _)) (zV (eCx G0 hr (T.d 0 rfl) (eAx (eIy (eVx 0) au) (eAx au aj)))))))
theorem oQ (T:Txt K mg t) (G1:gF P w K mg base t) (G3:gN P w K mg base t) (G4:lx P w K mg base t):lj P w K mg base t :=
 (T.d 5 rfl).ok pz (aZ T) fun hr=>aX (bD (eOr (eCx G1 hr (T.d 1 rfl) (eAx (eVx 0) aj)) (eOr (eCx G3 hr (T.d 3 rfl) (eAx (eVx 0) aj)) (zV (eCx G4 hr (T.d 4 rfl) (eAx (eVx 0) aj))))))
theorem pO (T:Txt K mg t):lh P w K mg base t :=
 (T.d 6 rfl).ok o4 (aZ T) fun hr=>aP (eZ (eUx (eIz T.z_isinstance (eVx 0) T.z_str)) (aX (bD aB)) fF) (aP (eZ (eUx (eIz T.z_isinstance (eVx 0) T.z_tuple)) (aX (bD aB)) fF) (aX (bD aB)))
theorem lY (T:Txt K mg t) (G6:lh P w K mg base t):i4 P w K mg base t :=
 (T.d 7 rfl).ok iH (aZ T) fun hr=>aP (eSx iH.nd 1 (eCx G6 hr (T.d 6 rfl) (eAx (eVx 0) aj))) (aP (eZ (eTx (dt hr.units) (eVx 1) aB) (aX (bD (jb (eAx au (eAx (eVx 0) (eAx aB aj)))))) fF) (aP (eZ (eTx (dt hr.units) (eVx 1) aB) (aX (bD (jb (eAx au (eAx au (eAx (eIy (eVx 0) au) aj)))))) fF) (aX (bD (jb (eAx au (eAx au (eAx (eVx 0) aj))))))))
theorem oR (T:Txt K mg t) (G1:gF P w K mg base t) (G5:lj P w K mg base t):g9 P w K mg base t :=
 (T.d 8 rfl).ok pq (aZ T) fun hr=>aP (eZ (eW (xa (gO (eUx (eIz T.z_isinstance (eVx 0) T.z_tuple))) (mz (eTx (eD hr.units) (eBs bu T.z_len (eAx (eVx 0) aj)) au)))) (aX (bD eBl)) fF) (aX (bD (zE (eCx G1 hr (T.d 1 rfl) (eAx (eIy (eVx 0) au) aj)) (zE (eCx G1 hr (T.d 1 rfl) (eAx (eIy (eVx 0) au) aj)) (zV (eCx G5 hr (T.d 5 rfl) (eAx (eIy (eVx 0) au) aj)))))))
theorem l5 (T:Txt K mg t) (G7:i4 P w K mg base t):i7 P w K mg base t :=
 (T.d 9 rfl).ok mK (aZ T) fun hr=>aX (bD (jb (eAx (eIy (eVx 0) au) (eAx (eIx m8 (eVx 0) au (fun _ _=>rfl)) (eA (eCl G7 hr (T.d 7 rfl).m (T.d 7 rfl).F.kp (T.d 7 rfl).b (eA (eIx m8 (eVx 0) au (fun _ _=>rfl)) aj rfl)) aj rfl)))))
theorem fv (T:Txt K mg t) (G9:i7 P w K mg base t):cG P w K mg base t :=
 (T.d 10 rfl).ok bf (aZ T) fun hr=>aP (eSx bf.nd 1 y7) (aP (eFx (HC (eVx 0)) (eGx bf.nd 2) (aX (oW hr.units (eVx 1) (eVx 2) eBl rfl))) (aX (bD (Sg.A8 fyS rfl G9 (hr.mono (by omega)) (T.d 9 rfl).b rfl T.z_sorted (by decide +kernel) rfl (T.d 9 rfl).m rfl (eAx (oO 1 rfl (Or.inl rfl) rfl rfl) aj) rfl))))
theorem lH (T:Txt K mg t) (G8:g9 P w K mg base t):gL P w K mg base t :=
 (T.d 11 rfl).ok ki (aZ T) fun hr=>aX (bD (eBs (tM rfl) T.z_all (eAx (eKx [] (HC (eVx 0)) eT0 (eC fun _ _ _ _=>(eCl G8 hr (T.d 8 rfl).m (T.d 8 rfl).F.kp (T.d 8 rfl).b (eA (eVx 0) aj rfl))) (bsc (sc:=aa cC) rfl (by decide +kernel)) trivial) aj)))
theorem sV (T:Txt K mg t) (G10:cG P w K mg base t) (G11:gL P w K mg base t):jD P w K mg base t :=
 (T.d 12 rfl).okQ kE (aZ T) fun hr=>qp (i:=3) (eW (xa (gO (eUx (Ed rfl T.z_isinstance (eVx 0) rfl (Ec (v:=.ty "list") rfl T.z_list (by decide +kernel) rfl (by decide) rfl) (Ec (v:=.ty "tuple") rfl T.z_tuple (by decide +kernel) rfl (by decide) rfl)))) (mz (gO (eUx (eCx G11 hr (T.d 11 rfl) (eAx (eVx 0) aj))))))) T.bL rfl T.c7 hr.hd aB rfl g5 (zM (eSx kE.nd 1 (eTs kQ T.z_tuple (eAx (eCx G10 hr (T.d 10 rfl) (eAx (eVx 0) aj)) aj))) (qp (i:=3) (eTx tQ (eBs bu T.z_len (eAx (eVx 1) aj)) (xm (v:=.int 400) rfl T.g_MOST_FACTS ⟨_,rfl⟩ rfl)) T.bL rfl T.c7 hr.hd aB rfl g5 (vL (eVx 1) xg) rfl rfl)) rfl rfl
theorem fm (T:Txt K mg t) (G8:g9 P w K mg base t):bt P w K mg base t :=
 (T.d 13 rfl).okQ fc (aZ T) fun hr=>qp (i:=1) (gO (eUx (eCx G8 hr (T.d 8 rfl) (eAx (eVx 0) aj)))) T.bG rfl T.cN hr.hd aB rfl g5 CT rfl rfl
theorem pV (T:Txt K mg t) (G13:bt P w K mg base t) (G12:jD P w K mg base t):n5 P w K mg base t :=
 (T.d 14 rfl).okQ qW (aZ T) fun hr=>sN (C:=t.ay) (i:=1) (r:=(jK 1).r K) G13 (hr.mono (by omega)) rfl (T.d 13 rfl).m (T.d 13 rfl).F.kp (T.d 13 rfl).b (eAx (eVx 1) aj) rfl rfl rfl iV pX rfl rfl (fun _ _ _ h=>h) (qp (i:=2) (yY (BU hr.units) (eVx 1) (eVx 0) (by with_unfolding_all rfl)) T.cp rfl T.d5 hr.hd aB rfl g5 (xh G12 (hr.mono (by omega)) rfl (T.d 12 rfl).m (T.d 12 rfl).F.kp (T.d 12 rfl).b (eAx (eOp vp (eVx 0) (jb (eAx (eVx 1) aj))) aj) rfl rfl rfl iV pX) rfl rfl)
theorem lI (T:Txt K mg t) (G13:bt P w K mg base t):gJ P w K mg base t :=
 (T.d 15 rfl).okQ kG (aZ T) fun hr=>sN (C:=t.ay) (i:=1) (r:=(jK 1).r K) G13 (hr.mono (by omega)) rfl (T.d 13 rfl).m (T.d 13 rfl).F.kp (T.d 13 rfl).b (eAx (eVy 1) aj) rfl rfl rfl iV pX rfl rfl (fun _ _ _ h=>h) (qp (i:=4) (yY (sJ hr.units) (eVy 1) (eVx 0) (by with_unfolding_all rfl)) T.bh rfl T.bV hr.hd aB rfl g5 (vL (eTs kQ T.z_tuple (eAx (eKx ["fact"] (eIT (eVx 0)) (eT1 fun _ _ _ _=>(eTx (eD hr.units) (eVx 0) (eVy 1))) (eC fun _ _ _ _=>(eVx 0)) (bsc (sc:=aa cu) rfl (by decide +kernel)) ⟨rfl,⟨rfl,rfl⟩,trivial⟩) aj)) xg) rfl rfl)
theorem C5 (T:Txt K mg t):BS P w K mg base t :=
 (T.d 16 rfl).ok BI (aZ T) fun hr=>aX (bD (AX (ePC aB (eVx 0) (ePC aB au (ePC aB au ePN))) (by rfl) (by rfl) (by simp) (by decide)))
theorem yd (T:Txt K mg t):gz P w K mg base t :=
 (T.d 17 rfl).ok cX (aZ T) fun hr=>aP (eSx cX.nd 2 (lC hr.units (eVx 0) aB (fun _ _=>rfl))) (aP (eZ (eTx (dt hr.units) (lC hr.units (eVx 0) aB (fun _ _=>rfl)) au) (aP (oW hr.units (eVx 0) aB (eOp aO (eVx 2) au) rfl) (aP (eSx cX.nd 3 au) (aP (eZ (eTx tQ (eBs bu T.z_len (eAx (lC hr.units (eVx 0) aB (fun _ _=>rfl)) aj)) au) (aX (eSx cX.nd 3 (eIy (lC hr.units (eVx 0) aB (fun _ _=>rfl)) (eOp cm (eVx 2) (eBs bu T.z_len (eAx (lC hr.units (eVx 0) aB (fun _ _=>rfl)) aj)))))) fF) (aP (eZ (eW (xa (eTx AG (eVx 2) (eBs bu T.z_len (eAx (lC hr.units (eVx 0) aB (fun _ _=>rfl)) aj))) (mz (eTx qj (eBs mn T.z_abs (eAx (eVx 3) aj)) (eOp l7 au au))))) (aP (eSx cX.nd 3 (eOp aO (eOp aO (eOp cm (eVx 3) au) (eOp dM au (eVx 2))) au)) (aP (eSx cX.nd 4 (eOp cm (eOp dM (eVx 3) au) au)) (aP (eSx cX.nd 4 (eOp cm (eOp aO (eOp aO (eOp dM (eVx 4) (eVx 4)) (eOp dM au (eVx 4))) (eOp dM au (eVx 2))) au)) (aX (bD (eOp cm (eOp jO (eOp cm (eOp dM (eVx 4) au) au) au) (eVx 1))))))) fF) (aX (oW hr.units (eVx 0) aB (eBs mn T.z_abs (eAx (eVx 3) aj)) rfl)))))) fF) (aP (eSx cX.nd 5 (eOp cm (lC hr.units (eVx 0) aB (fun _ _=>rfl)) (eVx 1))) (aP (oW hr.units (eVx 0) aB (eOp jO (lC hr.units (eVx 0) aB (fun _ _=>rfl)) (eVx 1)) rfl) (aX (bD (eVx 5))))))
theorem yK (T:Txt K mg t) (G17:gz P w K mg base t):wt P w K mg base t :=
 (T.d 18 rfl).ok mC (aZ T) fun hr=>aP (eSx mC.nd 2 (eIy (jm (eAx aB (eA aB (eA aB (eA (eIx m8 (jm (eA aB (eA aB (eA aB (eA aB (eA aB (eA aB aj rfl) rfl) rfl) rfl) rfl) rfl)) (eCl G17 hr (T.d 17 rfl).m (T.d 17 rfl).F.kp (T.d 17 rfl).b (eA (eVx 0) (eA au aj rfl) rfl)) (fun _ _=>rfl)) aj rfl) rfl) rfl))) (eCx G17 hr (T.d 17 rfl) (eAx (eVx 0) (eA au aj rfl))))) (aP (BC (eTx qj (eBs bu T.z_len (eAx (eVx 2) aj)) (eVx 1)) (aX (eSx mC.nd 2 (eOp aO (eVx 2) (eIy aB (eCx G17 hr (T.d 17 rfl) (eAx (eVx 0) (eAx au aj))))))) PassesOwn.never) (aX (bD (eSl (orS kO (orS hG kg)) (eVx 2) Bt (eP (eVx 1))))))
theorem yZ (T:Txt K mg t) (G18:wt P w K mg base t) (G17:gz P w K mg base t):qz P w K mg base t :=
 (T.d 19 rfl).ok qr (aZ T) fun hr=>aP (eSx qr.nd 1 (eIy (jm (eAx (eOp rJ (eCl G17 hr (T.d 17 rfl).m (T.d 17 rfl).F.kp (T.d 17 rfl).b (eA (eVx 0) (eA au aj rfl) rfl)) au) (eA (jb (eA (eCl G18 hr (T.d 18 rfl).m (T.d 18 rfl).F.kp (T.d 18 rfl).b (eA (eVx 0) (eA (eCl G17 hr (T.d 17 rfl).m (T.d 17 rfl).F.kp (T.d 17 rfl).b (eA (eVx 0) (eA au aj rfl) rfl)) aj rfl) rfl)) aj rfl)) (eA (eCl G18 hr (T.d 18 rfl).m (T.d 18 rfl).F.kp (T.d 18 rfl).b (eA (eVx 0) (eA au aj rfl) rfl)) aj rfl) rfl))) (eCx G17 hr (T.d 17 rfl) (eAx (eVx 0) (eA au aj rfl))))) (aX (bD (jb (eAx (eIy (jm (eAx aB (eA aB (eA aB (eA (eCl G18 hr (T.d 18 rfl).m (T.d 18 rfl).F.kp (T.d 18 rfl).b (eA (eVx 0) (eA au aj rfl) rfl)) aj rfl) rfl) rfl))) (eCx G17 hr (T.d 17 rfl) (eAx (eVx 0) (eA au aj rfl)))) (eAx (eIy (jm (eA aB (eA aB aj rfl) rfl)) (eCl G17 hr (T.d 17 rfl).m (T.d 17 rfl).F.kp (T.d 17 rfl).b (eA (eVx 0) (eA au aj rfl) rfl))) (eAx (eVx 1) aj))))))
theorem jW (T:Txt K mg t) (G17:gz P w K mg base t):fC P w K mg base t :=
 (T.d 20 rfl).ok bx (aZ T) fun hr=>aP (eSy bx.nd 1 aB) (aP (eSy bx.nd 2 (eCx G17 hr (T.d 17 rfl) (eAx (eVx 0) (eAx au aj)))) (aP (Ck (i:=3) ["_law_turn_here"] (eR1 rfl T.z_range (eAx (eOp aO au (eCx G17 hr (T.d 17 rfl) (eAx (eVx 0) (eAx au aj)))) aj) rfl) eT0 (eC fun _ _ _ _=>(eOp cm (eOp dM au (eOp aO (eVx 0) (eVy 1))) au)) bx.nd rfl rfl rfl rfl (bsc (sc:=aa bp) rfl (by decide +kernel)) (by decide +kernel) ⟨rfl,⟨rfl,rfl⟩,trivial⟩ (fun _=>rfl)) (aX (bD (eKx ["_law_letters"] (eIL (eVx 3)) eT0 (eC fun _ _ _ _=>(jb (eAx (eOp aO aB (eIy (eVy 1) (eOp jO (eVx 0) au))) (eAx aB (eAx (eIy (eVy 1) (eOp cm (eVx 0) au)) aj))))) (bsc (sc:=aa bp) rfl (by decide +kernel)) ⟨rfl,⟨rfl,rfl⟩,trivial⟩)))))
theorem Bq (T:Txt K mg t) (G17:gz P w K mg base t):Bo P w K mg base t :=
 (T.d 21 rfl).ok lq (aZ T) fun hr=>aP (eSx lq.nd 1 (eIy (jm (eAx aB (eA aB (eA aB (eA aB (eA vW (eA au (eA eBl (eA (jb (eA aB aj rfl)) aj rfl) rfl) rfl) rfl) rfl) rfl) rfl))) (eCx G17 hr (T.d 17 rfl) (eAx (eVx 0) (eA au aj rfl))))) (aP (eSx lq.nd 2 (eIy (jm (eAx aB (eAx aB (eA (eOp l7 au au) (eA (eUy (eOp l7 au au)) (eA eBl (eA vW (eA (jb (eA aB aj rfl)) (eA (jb (eA aB (eA aB aj rfl) rfl)) (eA (jm (eA aB aj rfl)) aj rfl) rfl) rfl) rfl) rfl) rfl) rfl)))) (eCx G17 hr (T.d 17 rfl) (eAx (eVx 0) (eAx au aj))))) (aP (eSx lq.nd 3 (jm (eAx (jb (eAx (eVx 1) (eAx aB (eAx au aj)))) (eAx (jb (eAx aB (eAx (eVx 1) (eA au aj rfl)))) (eAx (jb (eAx aB (eA aB (eA (eVx 2) aj rfl) rfl))) (eAx (jb (eA aB (eA aB aj rfl) rfl)) (eA (jb (eA aB (eA aB (eA au (eA au aj rfl) rfl) rfl) rfl)) (eA (jm (eA aB (eA aB (eA au aj rfl) rfl) rfl)) (eA (jb aj) (eA vW aj rfl) rfl) rfl) rfl))))))) (aP (eSx lq.nd 3 (eOp aO (eVx 3) (jm (eAx au (eAx aB (eAx y7 (eAx (jm (eAx (jb (eA aB (eA aB (eA au aj rfl) rfl) rfl)) aj)) aj))))))) (aX (bD (eIy (eVx 3) (eCx G17 hr (T.d 17 rfl) (eAx (eVx 0) (eAx (eBs bu T.z_len (eAx (eVx 3) aj)) aj)))))))))
theorem ym (T:Txt K mg t):wm P w K mg base t :=
 (T.d 22 rfl).ok xy (aZ T) fun hr=>aP (eZ (eUx (eIz T.z_isinstance (eVx 0) T.z_str)) (aX (bD au)) fF) (aX (bD (eTs lO T.z_int (eAx (eIz T.z_isinstance (eVx 0) T.z_tuple) aj))))
theorem tH (T:Txt K mg t) (G22:wm P w K mg base t):mW P w K mg base t :=
 (T.d 23 rfl).ok t8 (aZ T) fun hr=>aP (eZ (eTx (eD hr.units) (eSl (orS kO (orS hG kg)) (eVx 0) Bt (eP au)) (eSl (orS kO (orS hG kg)) (eVx 1) Bt (eP au))) (aX (bD (wA (lT hr.sh) (eSl (orS kO (orS hG kg)) (eVx 0) Bt (eP au)) (eSl (orS kO (orS hG kg)) (eVx 1) Bt (eP au)) (eE _)))) fF) (aP (eZ (eTx (eD hr.units) (eCx G22 hr (T.d 22 rfl) (eAx (eIy (eVx 0) au) aj)) (eCx G22 hr (T.d 22 rfl) (eAx (eIy (eVx 1) au) aj))) (aX (bD (wA (lT hr.sh) (eCx G22 hr (T.d 22 rfl) (eAx (eIy (eVx 0) au) aj)) (eCx G22 hr (T.d 22 rfl) (eAx (eIy (eVx 1) au) aj)) (eE _)))) fF) (aX (bD (wA (lT hr.sh) (eIy (eVx 0) au) (eIy (eVx 1) au) (eE _)))))
theorem vF (T:Txt K mg t) (G23:mW P w K mg base t):qO P w K mg base t :=
 (T.d 24 rfl).ok nC (aZ T) fun hr=>aP (eZ (eW (xa (gO (eUx (eIz T.z_isinstance (eVx 0) T.z_tuple))) (mz (eTx (eD hr.units) (eBs bu T.z_len (eAx (eVx 0) aj)) (eBs om T.z_len (eAx (eVx 1) aj)))))) (aX (bD eBl)) fF) (aP (eFx (eR1 rfl T.z_range (eAx (eBs bu T.z_len (eAx (eVx 0) aj)) aj) rfl) (eGx nC.nd 2) (aP (eZ (eW (xa (gO (eUx (eIz T.z_isinstance (eIy (eVx 0) (eVx 2)) T.z_tuple))) (xa (m6 hr.units (eIy (eVx 0) (eVx 2)) (eVx 1) (by with_unfolding_all rfl)) (mz (eUx (eIz T.z_isinstance (eIy (eIy (eVx 0) (eVx 2)) au) T.z_bool)))))) (aX (bD eBl)) fF) (aX (eZ (eW (uA (eTx tQ (eVx 2) au) (oA (gO (eUx (eCx G23 hr (T.d 23 rfl) (eAx (eIy (eVx 0) (eOp rJ (eVx 2) au)) (eAx (eIy (eVx 0) (eVx 2)) aj)))))))) (aX (bD eBl)) fF)))) (aX (bD eBl)))
theorem x4 (T:Txt K mg t) (G14:n5 P w K mg base t) (G15:gJ P w K mg base t):wx P w K mg base t :=
 (T.d 25 rfl).ok fu (aZ T) fun hr=>aP (eSx fu.nd 3 (jm aj)) (aP (D8 (i:=3) (j:=5) (l:=[(1,t.ay),(2,t.aT),(3,t.aS),(4,t.aw)]) (Dc:=t.aG) (post:=PWc K 5 (fun xs=>hnd (fun _ H Q=>grL xs H Q) 3 4 "refused") [(1, "fact"),(2, "twice"),(3, "web"),(4, "missing")] (kN (yL (aR (tC (.str "web")) (aR (kX 5) gp))) (bQ 3))) (EU (eUx (oO 0 rfl (Or.inl rfl) rfl rfl)) (v8 G14 (hr.mono (by omega)) rfl (T.d 14 rfl).m (T.d 14 rfl).F.kp (T.d 14 rfl).b (eAx (oO 1 rfl (Or.inl rfl) rfl rfl) (eAx (oO 2 rfl (Or.inl rfl) rfl rfl) aj)) rfl rfl rfl iV fu.nd rfl (Or.inl rfl) (Or.inl rfl) rfl (zR rfl) rfl (fun _ _ z=>z)) (v8 G15 (hr.mono (by omega)) rfl (T.d 15 rfl).m (T.d 15 rfl).F.kp (T.d 15 rfl).b (eAx (oO 1 rfl (Or.inl rfl) rfl rfl) (eAx (oO 2 rfl (Or.inl rfl) rfl rfl) aj)) rfl rfl rfl iV fu.nd rfl (Or.inl rfl) (Or.inl rfl) rfl (zR rfl) rfl (fun _ _ z=>z)) (fun _ _ z=>z)) (vn (fun _=>rfl) fu.nd (by show ¬("e" : Str)∈(["_law_is_put", "_law_web", "_law_fact_here", "_law_found", "_law_words", "_ex"]:List Str);decide +kernel) rfl (Or.inl rfl) (Or.inl rfl) rfl (Or.inl rfl) (Or.inl rfl) (Or.inl rfl) rfl rfl rfl rfl rfl rfl (cP (fun ea oe oc=>⟨(if true=true then [V.str "fact"] else [])++(if false=true then [V.str "twice"] else []),(if false=true then [V.str "web"] else [])++(if false=true then [V.str "missing"] else []), "fact", rfl,rfl,n4 (dr T.bG oc T.z_isinstance T.z_int T.cN gf) (dr T.bG oc T.z_isinstance T.z_int T.d5 T.kb_NoFact_Twice) (by decide),jY (n8 (oO 4 rfl (Or.inl rfl) rfl rfl) (dr T.bG oc T.z_isinstance T.z_int T.c7 T.kb_NoFact_NoWeb) (by decide)) (dr T.bG oc T.z_isinstance T.z_int T.bV T.kb_NoFact_Missing) (by decide),qh (c:=.ty "ValueError") (cv:=.type "ValueError") T.bG oc rfl T.z_isinstance rfl rfl rfl (iM (X:=Xs _ ea oe _) (v:=.ty "ValueError") (u:=.type "ValueError") rfl T.z_ValueError PyProof.Rows.Boot.«ValueError» rfl (by decide) rfl) rfl (fun u z=>z) (jM T.mv_NoFact)⟩) (cP (fun ea oe oc=>⟨(if false=true then [V.str "fact"] else [])++(if true=true then [V.str "twice"] else []),(if false=true then [V.str "web"] else [])++(if false=true then [V.str "missing"] else []), "twice", rfl,rfl,n4 (dr T.cp oc T.z_isinstance T.z_int T.cN T.kb_Twice_NoFact) (dr T.cp oc T.z_isinstance T.z_int T.d5 gf) (by decide),jY (n8 (oO 4 rfl (Or.inl rfl) rfl rfl) (dr T.cp oc T.z_isinstance T.z_int T.c7 T.kb_Twice_NoWeb) (by decide)) (dr T.cp oc T.z_isinstance T.z_int T.bV T.kb_Twice_Missing) (by decide),qh (c:=.ty "ValueError") (cv:=.type "ValueError") T.cp oc rfl T.z_isinstance rfl rfl rfl (iM (X:=Xs _ ea oe _) (v:=.ty "ValueError") (u:=.type "ValueError") rfl T.z_ValueError PyProof.Rows.Boot.«ValueError» rfl (by decide) rfl) rfl (fun u z=>z) (jM T.mv_Twice)⟩) (cP (fun ea oe oc=>⟨(if false=true then [V.str "fact"] else [])++(if false=true then [V.str "twice"] else []),(if true=true then [V.str "web"] else [])++(if false=true then [V.str "missing"] else []), "web", rfl,rfl,n4 (dr T.bL oc T.z_isinstance T.z_int T.cN T.kb_NoWeb_NoFact) (dr T.bL oc T.z_isinstance T.z_int T.d5 T.kb_NoWeb_Twice) (by decide),jY (n8 (oO 4 rfl (Or.inl rfl) rfl rfl) (dr T.bL oc T.z_isinstance T.z_int T.c7 gf) (by decide)) (dr T.bL oc T.z_isinstance T.z_int T.bV T.kb_NoWeb_Missing) (by decide),qh (c:=.ty "ValueError") (cv:=.type "ValueError") T.bL oc rfl T.z_isinstance rfl rfl rfl (iM (X:=Xs _ ea oe _) (v:=.ty "ValueError") (u:=.type "ValueError") rfl T.z_ValueError PyProof.Rows.Boot.«ValueError» rfl (by decide) rfl) rfl (fun u z=>z) (jM T.mv_NoWeb)⟩) (cP (fun ea oe oc=>⟨(if false=true then [V.str "fact"] else [])++(if false=true then [V.str "twice"] else []),(if false=true then [V.str "web"] else [])++(if true=true then [V.str "missing"] else []), "missing", rfl,rfl,n4 (dr T.bh oc T.z_isinstance T.z_int T.cN T.kb_Missing_NoFact) (dr T.bh oc T.z_isinstance T.z_int T.d5 T.kb_Missing_Twice) (by decide),jY (n8 (oO 4 rfl (Or.inl rfl) rfl rfl) (dr T.bh oc T.z_isinstance T.z_int T.c7 T.kb_Missing_NoWeb) (by decide)) (dr T.bh oc T.z_isinstance T.z_int T.bV gf) (by decide),qh (c:=.ty "ValueError") (cv:=.type "ValueError") T.bh oc rfl T.z_isinstance rfl rfl rfl (iM (X:=Xs _ ea oe _) (v:=.ty "ValueError") (u:=.type "ValueError") rfl T.z_ValueError PyProof.Rows.Boot.«ValueError» rfl (by decide) rfl) rfl (fun u z=>z) (jM T.mv_Missing)⟩) vM))))) rfl (pw_ok (fun p hp=>by simp only [JV,KI,LL] at hp;rcases hp with rfl | rfl | rfl | rfl <;> rfl)) fu.nd rfl (by show ¬("e" : Str)∈(["_law_is_put", "_law_web", "_law_fact_here", "_law_found", "_law_words", "_ex"]:List Str);decide +kernel) (cP ⟨T.bG,T.mr_NoFact_ShapeError⟩ (cP ⟨T.cp,T.mr_Twice_ShapeError⟩ (cP ⟨T.bL,T.mr_NoWeb_ShapeError⟩ (cP ⟨T.bh,T.mr_Missing_ShapeError⟩ vM)))) T.jw rfl T.jJ rfl rfl rfl) (aX (bD (eVx 3))))
theorem Ab (T:Txt K mg t):BH P w K mg base t :=
 (T.d 26 rfl).ok Dl (aZ T) fun hr=>aP (eZ (eUx (eVx 3)) (aX (bD aB)) fF) (aP (eZ (eW (uA (eUx (eVx 0)) (oA (GF hr.units (eVx 2) (eVx 1) (by with_unfolding_all rfl))))) (aX (bD aB)) fF) (aP (eZ (eW (uA (eUx (eVx 0)) (oA (eTx (dt hr.units) (eBs om T.z_len (eAx (eVx 1) aj)) au)))) (aX (bD aB)) fF) (aP (eZ (eW (uA (gO (eUx (eVx 0))) (oA (m6 hr.units (eVx 2) (eVx 1) (by with_unfolding_all rfl))))) (aX (bD aB)) fF) (aX (bD aB)))))
theorem yu (T:Txt K mg t) (G17:gz P w K mg base t) (G19:qz P w K mg base t) (G21:Bo P w K mg base t) (G26:BH P w K mg base t) (G25:wx P w K mg base t) (G24:qO P w K mg base t):wy P w K mg base t :=
 (T.d 27 rfl).ok cB (aZ T) fun hr=>aP (eSx cB.nd 4 (wA (dt hr.units) (eCx G17 hr (T.d 17 rfl) (eAx (eVx 0) (eAx au aj))) au (eE _))) (aP (eSx cB.nd 5 (wA (dt hr.units) (eCx G17 hr (T.d 17 rfl) (eAx (eVx 0) (eAx au aj))) au (eE _))) (aP (eSx cB.nd 6 (eIy (eVx 3) (eCx G17 hr (T.d 17 rfl) (eAx (eVx 0) (eAx (eBs bu T.z_len (eAx (eVx 3) aj)) aj))))) (aP (eZ (eTx (dt hr.units) (eCx G17 hr (T.d 17 rfl) (eAx (eVx 0) (eAx au aj))) au) (aX (eSx cB.nd 6 (eCx G19 hr (T.d 19 rfl) (eAx (eVx 0) aj)))) fF) (aP (eZ (eUx (eVx 5)) (aX (eSx cB.nd 6 (eCx G21 hr (T.d 21 rfl) (eAx (eVx 0) aj)))) (aX (C0 (eBM (eVx 3) (eAx (eVx 6) aj) sD PySem.F.plainAttrs_list PySem.F.slot_list_append PySem.F.type_list_append rfl rfl rfl rfl rfl) rfl))) (aP (eSx cB.nd 7 (eTs (mY rfl) T.z_list (eAx (eVx 1) aj))) (aP (eSx cB.nd 8 (eCx G26 hr (T.d 26 rfl) (eAx (eVx 4) (eAx (eVx 2) (eAx (eVx 6) (eAx (eVx 5) aj)))))) (aP (eSx cB.nd 9 (eCx G25 hr (T.d 25 rfl) (eAx (eVx 4) (eAx (eVx 1) (eAx (eVx 6) aj))))) (aP (eZ (eTx (eD hr.units) (eTs (mY rfl) T.z_list (eAx (eVx 1) aj)) (eVx 7)) (aX (bD vW)) fF) (aP (eZ (eTx (eD hr.units) (eVx 8) aB) (aX (bD (eIy (jm (eAx vW (eAx (eVx 1) aj))) (eTs lO T.z_int (eAx (wA (dt hr.units) (eVx 9) (jm (eAx aB (eAx (jm (eAx (eVx 8) aj)) (eAx eBl aj)))) (eE _)) aj))))) fF) (aP (eZ (eUx (eVx 4)) (aX (oW hr.units (eVx 2) (eVx 6) eBl rfl)) (aX (C0 (eBM (eVx 2) (eAx (eVx 6) aj) (yH hr.units) PySem.F.plainAttrs_dict PySem.F.slot_dict_pop PySem.F.type_dict_pop rfl rfl rfl rfl rfl) rfl))) (aP (eZ (eW (xa (eTx (eD hr.units) (eIy (eVx 9) au) aB) (mz (gO (eUx (eCx G24 hr (T.d 24 rfl) (eAx (eIy (eVx 9) au) (eAx (eVx 2) aj)))))))) (aX (bD vW)) fF) (aP (eZ (eTx (eD hr.units) (eCx G25 hr (T.d 25 rfl) (eAx (Hm (eVx 4)) (eAx (eIy (eVx 9) au) (eAx (eVx 6) aj)))) (jm (eAx aB (eAx (eVx 1) aj)))) (aX (bD vW)) fF) (aX (bD (eIy (eVx 9) au)))))))))))))))
theorem Ad (T:Txt K mg t) (G16:BS P w K mg base t) (G17:gz P w K mg base t) (G19:qz P w K mg base t) (G20:fC P w K mg base t) (G12:jD P w K mg base t) (G27:wy P w K mg base t):GK P w K mg base t :=
 (T.d 28 rfl).ok dG (aZ T) fun hr=>aP (eSy dG.nd 1 (eCx G16 hr (T.d 16 rfl) (eAx (eVx 0) aj))) (aP (Ck (i:=2) ["_law_pen_here"] (eR1 rfl T.z_range (eAx (eCx G17 hr (T.d 17 rfl) (eAx (eVy 1) (eAx au aj))) aj) rfl) eT0 (eC fun _ _ _ _=>(eCx G19 hr (T.d 19 rfl) (eAx (eVy 1) aj))) dG.nd rfl rfl rfl rfl (bsc (sc:=aa l9) rfl (by decide +kernel)) (by decide +kernel) ⟨rfl,⟨rfl,rfl⟩,trivial⟩ (fun _=>rfl)) (aP (eZ (eTx (dt hr.units) (eCx G17 hr (T.d 17 rfl) (eAx (eVy 1) (eAx au aj))) au) (aX (eSx dG.nd 2 (eCx G20 hr (T.d 20 rfl) (eAx (eVy 1) aj)))) fF) (aP (eSx dG.nd 3 y7) (aP (eFx (eIL (eVx 2)) (eGx dG.nd 4) (aX (oW hr.units (eVx 3) (eVx 4) eBl rfl))) (aP (eSx dG.nd 5 (AZ (l:=[(1,t.ay),(2,t.aT),(3,t.aS),(4,t.aw)]) G12 (hr.mono (by omega)) rfl (T.d 12 rfl).m (T.d 12 rfl).F.kp (T.d 12 rfl).b (eAx (eVx 2) aj) rfl rfl rfl iV xg)) (aP (eSx dG.nd 6 (eOp aO (eVx 2) (jm (eAx (jb (eAx aB (eAx aB (eAx au aj)))) aj)))) (aP (eFx (eR1 rfl T.z_range (eAx (eOp aO au (eCx G17 hr (T.d 17 rfl) (eAx (eVy 1) (eAx au aj)))) aj) rfl) (eGx dG.nd 7) (aP (eSx dG.nd 5 (eCx G27 hr (T.d 27 rfl) (eAx (eVy 1) (eAx (eVx 5) (eAx (eVx 3) (eAx (eVx 6) aj)))))) (aX (eZ (eTx Ae (eVx 5) vW) (aX (bD eBl)) fF)))) (aX (bD eBl)))))))))
end
theorem Dg {P:Program} {w:World} {K:Fg} {mg:Str->Option Value} {base:Heap} {t:Adr} (T:Txt K mg t):br P w K mg base CX0 11 (t.f 28).1 (t.f 28).2 ["_law_script"] (qA K):=by
 have h0:=C5 (P:=P) (w:=w) (base:=base) T;have h1:=yd (P:=P) (w:=w) (base:=base) T;have h2:=yK (P:=P) (w:=w) (base:=base) T h1;have h3:=yZ (P:=P) (w:=w) (base:=base) T h2 h1;have h4:=jW (P:=P) (w:=w) (base:=base) T h1;have h5:=pO (P:=P) (w:=w) (base:=base) T;have h6:=lY (P:=P) (w:=w) (base:=base) T h5;have h7:=l5 (P:=P) (w:=w) (base:=base) T h6;have h8:=fv (P:=P) (w:=w) (base:=base) T h7;have h9:=iS (P:=P) (w:=w) (base:=base) T;have h10:=pM (P:=P) (w:=w) (base:=base) T h9;have h11:=mV (P:=P) (w:=w) (base:=base) T;have h12:=kA (P:=P) (w:=w) (base:=base) T h11;have h13:=oY (P:=P) (w:=w) (base:=base) T h9;have h14:=oQ (P:=P) (w:=w) (base:=base) T h10 h12 h13;have h15:=oR (P:=P) (w:=w) (base:=base) T h10 h14;have h16:=lH (P:=P) (w:=w) (base:=base) T h15;have h17:=sV (P:=P) (w:=w) (base:=base) T h8 h16;have h18:=Bq (P:=P) (w:=w) (base:=base) T h1;have h19:=Ab (P:=P) (w:=w) (base:=base) T;have h20:=fm (P:=P) (w:=w) (base:=base) T h15;have h21:=pV (P:=P) (w:=w) (base:=base) T h20 h17;have h22:=lI (P:=P) (w:=w) (base:=base) T h20;have h23:=x4 (P:=P) (w:=w) (base:=base) T h21 h22;have h24:=ym (P:=P) (w:=w) (base:=base) T;have h25:=tH (P:=P) (w:=w) (base:=base) T h24;have h26:=vF (P:=P) (w:=w) (base:=base) T h25;have h27:=yu (P:=P) (w:=w) (base:=base) T h1 h3 h18 h19 h23 h26;have h28:=Ad (P:=P) (w:=w) (base:=base) T h0 h1 h3 h4 h17 h27;exact h28
theorem Bn {K:Fg} {h:Heap} {mg:Str->Option Value} (X:K.In h) (G:h.Ns mainGlobals mg) (D:zJ K mg dfs)
  (z_ValueError:PySem.W.nsIn K mainGlobals "ValueError" = some none)
  (z_abs:PySem.W.nsIn K mainGlobals "abs" = some none)
  (z_all:PySem.W.nsIn K mainGlobals "all" = some none)
  (z_bool:PySem.W.nsIn K mainGlobals "bool" = some none)
  (z_int:PySem.W.nsIn K mainGlobals "int" = some none)
  (z_isinstance:PySem.W.nsIn K mainGlobals "isinstance" = some none)
  (z_len:PySem.W.nsIn K mainGlobals "len" = some none)
  (z_list:PySem.W.nsIn K mainGlobals "list" = some none)
  (z_range:PySem.W.nsIn K mainGlobals "range" = some none)
  (z_sorted:PySem.W.nsIn K mainGlobals "sorted" = some none)
  (z_str:PySem.W.nsIn K mainGlobals "str" = some none)
  (z_tuple:PySem.W.nsIn K mainGlobals "tuple" = some none)
  {tk_GREATEST_NUMBER:Tok} (g_GREATEST_NUMBER:PySem.W.nsIn K mainGlobals "GREATEST_NUMBER" = some (some (Value.int 999999999999999999999999999999 tk_GREATEST_NUMBER)))
  {tk_MOST_FACTS:Tok} (g_MOST_FACTS:PySem.W.nsIn K mainGlobals "MOST_FACTS" = some (some (Value.int 400 tk_MOST_FACTS)))
  {tk_MOST_LETTERS:Tok} (g_MOST_LETTERS:PySem.W.nsIn K mainGlobals "MOST_LETTERS" = some (some (Value.int 8 tk_MOST_LETTERS)))
  {xa_NoFact:Addr} (m_NoFact:PySem.W.nsIn K mainGlobals "NoFact" = some (some (.ref xa_NoFact))) (e_NoFact:PySem.W.excIn K xa_NoFact [.type "ValueError", .type "Exception", .type "BaseException", .type "object"] "ValueError.__new__" = true) (cl_NoFact:PySem.W.findIn K (.ref xa_NoFact) "__class__" = some (some (.builtin "object.__class__"))) (ga_NoFact:PySem.W.findIn K (.ref xa_NoFact) "__getattribute__" = some (some (.builtin "BaseException.__getattribute__"))) (gg_NoFact:PySem.W.findIn K (.ref xa_NoFact) "__getattr__" = some none)
  {xa_Twice:Addr} (m_Twice:PySem.W.nsIn K mainGlobals "Twice" = some (some (.ref xa_Twice))) (e_Twice:PySem.W.excIn K xa_Twice [.type "ValueError", .type "Exception", .type "BaseException", .type "object"] "ValueError.__new__" = true) (cl_Twice:PySem.W.findIn K (.ref xa_Twice) "__class__" = some (some (.builtin "object.__class__"))) (ga_Twice:PySem.W.findIn K (.ref xa_Twice) "__getattribute__" = some (some (.builtin "BaseException.__getattribute__"))) (gg_Twice:PySem.W.findIn K (.ref xa_Twice) "__getattr__" = some none)
  {xa_NoWeb:Addr} (m_NoWeb:PySem.W.nsIn K mainGlobals "NoWeb" = some (some (.ref xa_NoWeb))) (e_NoWeb:PySem.W.excIn K xa_NoWeb [.type "ValueError", .type "Exception", .type "BaseException", .type "object"] "ValueError.__new__" = true) (cl_NoWeb:PySem.W.findIn K (.ref xa_NoWeb) "__class__" = some (some (.builtin "object.__class__"))) (ga_NoWeb:PySem.W.findIn K (.ref xa_NoWeb) "__getattribute__" = some (some (.builtin "BaseException.__getattribute__"))) (gg_NoWeb:PySem.W.findIn K (.ref xa_NoWeb) "__getattr__" = some none)
  {xa_Missing:Addr} (m_Missing:PySem.W.nsIn K mainGlobals "Missing" = some (some (.ref xa_Missing))) (e_Missing:PySem.W.excIn K xa_Missing [.type "ValueError", .type "Exception", .type "BaseException", .type "object"] "ValueError.__new__" = true) (cl_Missing:PySem.W.findIn K (.ref xa_Missing) "__class__" = some (some (.builtin "object.__class__"))) (ga_Missing:PySem.W.findIn K (.ref xa_Missing) "__getattribute__" = some (some (.builtin "BaseException.__getattribute__"))) (gg_Missing:PySem.W.findIn K (.ref xa_Missing) "__getattr__" = some none)
  {xa_ShapeError:Addr} (m_ShapeError:PySem.W.nsIn K mainGlobals "ShapeError" = some (some (.ref xa_ShapeError))) (e_ShapeError:PySem.W.excIn K xa_ShapeError [.type "ValueError", .type "Exception", .type "BaseException", .type "object"] "ValueError.__new__" = true) (cl_ShapeError:PySem.W.findIn K (.ref xa_ShapeError) "__class__" = some (some (.builtin "object.__class__"))) (ga_ShapeError:PySem.W.findIn K (.ref xa_ShapeError) "__getattribute__" = some (some (.builtin "BaseException.__getattribute__"))) (gg_ShapeError:PySem.W.findIn K (.ref xa_ShapeError) "__getattr__" = some none)
  (mr_NoFact_ShapeError:PySem.W.mroIn K xa_NoFact (.ref xa_ShapeError)=some true)
  (mr_Twice_ShapeError:PySem.W.mroIn K xa_Twice (.ref xa_ShapeError)=some true)
  (mr_NoWeb_ShapeError:PySem.W.mroIn K xa_NoWeb (.ref xa_ShapeError)=some true)
  (mr_Missing_ShapeError:PySem.W.mroIn K xa_Missing (.ref xa_ShapeError)=some true)
  (mv_NoFact:PySem.W.mroIn K xa_NoFact (.type "ValueError")=some true)
  (mv_Twice:PySem.W.mroIn K xa_Twice (.type "ValueError")=some true)
  (mv_NoWeb:PySem.W.mroIn K xa_NoWeb (.type "ValueError")=some true)
  (mv_Missing:PySem.W.mroIn K xa_Missing (.type "ValueError")=some true)
  (kb_NoFact_Twice:PySem.W.mroIn K xa_NoFact (.ref xa_Twice)=some false)
  (kb_NoFact_NoWeb:PySem.W.mroIn K xa_NoFact (.ref xa_NoWeb)=some false)
  (kb_NoFact_Missing:PySem.W.mroIn K xa_NoFact (.ref xa_Missing)=some false)
  (kb_Twice_NoFact:PySem.W.mroIn K xa_Twice (.ref xa_NoFact)=some false)
  (kb_Twice_NoWeb:PySem.W.mroIn K xa_Twice (.ref xa_NoWeb)=some false)
  (kb_Twice_Missing:PySem.W.mroIn K xa_Twice (.ref xa_Missing)=some false)
  (kb_NoWeb_NoFact:PySem.W.mroIn K xa_NoWeb (.ref xa_NoFact)=some false)
  (kb_NoWeb_Twice:PySem.W.mroIn K xa_NoWeb (.ref xa_Twice)=some false)
  (kb_NoWeb_Missing:PySem.W.mroIn K xa_NoWeb (.ref xa_Missing)=some false)
  (kb_Missing_NoFact:PySem.W.mroIn K xa_Missing (.ref xa_NoFact)=some false)
  (kb_Missing_Twice:PySem.W.mroIn K xa_Missing (.ref xa_Twice)=some false)
  (kb_Missing_NoWeb:PySem.W.mroIn K xa_Missing (.ref xa_NoWeb)=some false)
  : ∃ t:Adr,(∀ (s:Shared) (u:Value),BindsTo s (t.f 28).2 ⟨[u],[]⟩ [("_law_script", u)])/\Txt K mg t:=by
 obtain ⟨f,hf⟩:=Ib D
 exact ⟨⟨f,xa_NoFact,xa_Twice,xa_NoWeb,xa_Missing,xa_ShapeError,tk_GREATEST_NUMBER,tk_MOST_FACTS,tk_MOST_LETTERS⟩,fun s u=>.of_eq ((hf 28 rfl).c [u] rfl),⟨hf,
  Kx X G z_ValueError,
  Kx X G z_abs,
  Kx X G z_all,
  Kx X G z_bool,
  Kx X G z_int,
  Kx X G z_isinstance,
  Kx X G z_len,
  Kx X G z_list,
  Kx X G z_range,
  Kx X G z_sorted,
  Kx X G z_str,
  Kx X G z_tuple,
  Lj X G g_GREATEST_NUMBER,
  Lj X G g_MOST_FACTS,
  Lj X G g_MOST_LETTERS,
  Lj X G m_NoFact,
  ⟨e_NoFact,cl_NoFact,ga_NoFact,gg_NoFact⟩,
  Lj X G m_Twice,
  ⟨e_Twice,cl_Twice,ga_Twice,gg_Twice⟩,
  Lj X G m_NoWeb,
  ⟨e_NoWeb,cl_NoWeb,ga_NoWeb,gg_NoWeb⟩,
  Lj X G m_Missing,
  ⟨e_Missing,cl_Missing,ga_Missing,gg_Missing⟩,
  Lj X G m_ShapeError,
  ⟨e_ShapeError,cl_ShapeError,ga_ShapeError,gg_ShapeError⟩,
  mr_NoFact_ShapeError,
  mr_Twice_ShapeError,
  mr_NoWeb_ShapeError,
  mr_Missing_ShapeError,
  mv_NoFact,
  mv_Twice,
  mv_NoWeb,
  mv_Missing,
  cI ⟨e_NoFact,cl_NoFact,ga_NoFact,gg_NoFact⟩ ⟨e_Twice,cl_Twice,ga_Twice,gg_Twice⟩ kb_NoFact_Twice,
  cI ⟨e_NoFact,cl_NoFact,ga_NoFact,gg_NoFact⟩ ⟨e_NoWeb,cl_NoWeb,ga_NoWeb,gg_NoWeb⟩ kb_NoFact_NoWeb,
  cI ⟨e_NoFact,cl_NoFact,ga_NoFact,gg_NoFact⟩ ⟨e_Missing,cl_Missing,ga_Missing,gg_Missing⟩ kb_NoFact_Missing,
  cI ⟨e_Twice,cl_Twice,ga_Twice,gg_Twice⟩ ⟨e_NoFact,cl_NoFact,ga_NoFact,gg_NoFact⟩ kb_Twice_NoFact,
  cI ⟨e_Twice,cl_Twice,ga_Twice,gg_Twice⟩ ⟨e_NoWeb,cl_NoWeb,ga_NoWeb,gg_NoWeb⟩ kb_Twice_NoWeb,
  cI ⟨e_Twice,cl_Twice,ga_Twice,gg_Twice⟩ ⟨e_Missing,cl_Missing,ga_Missing,gg_Missing⟩ kb_Twice_Missing,
  cI ⟨e_NoWeb,cl_NoWeb,ga_NoWeb,gg_NoWeb⟩ ⟨e_NoFact,cl_NoFact,ga_NoFact,gg_NoFact⟩ kb_NoWeb_NoFact,
  cI ⟨e_NoWeb,cl_NoWeb,ga_NoWeb,gg_NoWeb⟩ ⟨e_Twice,cl_Twice,ga_Twice,gg_Twice⟩ kb_NoWeb_Twice,
  cI ⟨e_NoWeb,cl_NoWeb,ga_NoWeb,gg_NoWeb⟩ ⟨e_Missing,cl_Missing,ga_Missing,gg_Missing⟩ kb_NoWeb_Missing,
  cI ⟨e_Missing,cl_Missing,ga_Missing,gg_Missing⟩ ⟨e_NoFact,cl_NoFact,ga_NoFact,gg_NoFact⟩ kb_Missing_NoFact,
  cI ⟨e_Missing,cl_Missing,ga_Missing,gg_Missing⟩ ⟨e_Twice,cl_Twice,ga_Twice,gg_Twice⟩ kb_Missing_Twice,
  cI ⟨e_Missing,cl_Missing,ga_Missing,gg_Missing⟩ ⟨e_NoWeb,cl_NoWeb,ga_NoWeb,gg_NoWeb⟩ kb_Missing_NoWeb⟩⟩
local macro_rules | `(tactic| walk_at "e")=>`(tactic| (case e9=>exact rfl))
local macro_rules | `(tactic| walk_at "p")=>`(tactic| first | with_reducible refine ph ?_ | walk_at "p0")
local macro_rules | `(tactic| walk_at "p0")=>`(tactic| first
 | (with_reducible first | refine Aa ?_ | refine Br ?_ | refine Dp ?_ | refine DA ?_ | refine BB ?_ | refine Fj ?_ | refine Cz ?_ | refine GS ?_ | refine Iy ?_ | refine E2 ?_ | refine Hf ?_ | refine GD ?_ | refine D6 ?_ | refine Fo ?_ | refine Dj ?_ | refine D3 ?_)
 | ((with_reducible refine w_var (d:=?d9) ?e9 ?_);walk_at "e") | ((with_reducible refine BX (d:=?d9) ?e9 ?_);walk_at "e") | ((with_reducible refine zL (d:=?d9) ?e9 ?_);walk_at "e") | ((with_reducible refine Ac (d:=?d9) ?e9 ?_);walk_at "e")
 | ((with_reducible refine He (d:=?d9) ?e9 ?_);walk_at "e") | ((with_reducible refine Ex (d:=?d9) ?e9 ?_);walk_at "e") | ((with_reducible refine Hg (d:=?d9) ?e9 ?_);walk_at "e")
 | (with_reducible first | refine Ff ?_ | refine z4 ?_ | refine F4 ?_) | ((with_reducible refine Hd (d:=?d9) ?e9 ?f9 ?_);walk_at "e"; (case f9=>exact rfl))
 | (with_reducible first | refine zT ?_ | refine CN ?_ | refine Gj ?_ | refine zY ?_ | refine EH ?_ | refine BG ?_ | refine CZ ?_ | refine Gs ?_ | refine Gm rfl ?_ | refine Bc rfl ?_ | refine D9 ?_ | refine GZ ?_ | refine w_and ?_ | refine w_or ?_ | refine w_not ?_ | refine GL ?_ | refine IV ?_ | refine Io ?_ | refine Ig ?_ | refine IK ?_ | refine Jc ?_ | refine Je ?_ | refine Jl ?_)
 | walk_at "q")
local macro_rules | `(tactic| walk_at "q0")=>`(tactic| first
 | ((with_reducible refine lr ?e9 ?_);walk_at "e") | ((with_reducible refine kj ?e9 ?_);walk_at "e")
 | ((show WPr _ _ _ _);refine ⟨_,_,rfl,rfl,?_⟩) | ((show WPr _ _ _ _);(refine ⟨_,_,rfl,JB ?c9,?_⟩);(case c9=>walk_at "c")) | ((show ze _ _ _ _);refine ⟨_,_,rfl,rfl,?_⟩) | ((show mO _ _ _);refine ⟨_,rfl,?_⟩) | ((show DO _ _ _ _ _ _ _);refine ⟨_,rfl,rfl,?_⟩) | ((show BA _ _ _ _ _ _);refine ⟨_,_,_,rfl,rfl,rfl,?_⟩) | ((show D1 _ _ _ _ _ _);refine ⟨_,rfl,rfl,?_⟩) | ((show DX _ _ _ _ _);refine ⟨_,_,_,rfl,rfl,rfl,?_⟩) | ((show WMr _ _ _ _ _);refine ⟨_,_,_,_,rfl,rfl,rfl,?_⟩) | ((show WTp _ _ _ _);refine ⟨_,rfl,Nat.le_of_ble_eq_true rfl,?_⟩) | ((show DZ _ _ _ _);refine ⟨_,_,rfl,rfl,?_⟩) | ((show Bd _ _ _ _);refine ⟨_,rfl,rfl,?_⟩) | ((show tK _ _ _ _);refine ⟨_,rfl,rfl,?_⟩)
 | ((with_reducible refine ⟨_,rfl,?_⟩)))
local macro_rules | `(tactic| walk_at "pp")=>`(tactic| repeat walk_at "p")
local macro_rules | `(tactic| walk_at "c")=>`(tactic| first | exact rfl | assumption | (simp only [mulC,Bool.or_eq_true,Kl,LZ] <;> omega))
local macro_rules | `(tactic| walk_at "pz")=>`(tactic| repeat walk_at "p0")
local macro_rules | `(tactic| walk_at "n=")=>`(tactic| ((try dsimp only [Cst.i,Cst.s,Cst.b,Cst.n,RV.av,ah,List.replicate_succ,List.replicate_zero,cK,fH,ak,bq,aD,du,ma,List.set_cons_zero,List.set_cons_succ,List.getElem?_cons_zero,List.getElem?_cons_succ,List.map_cons,List.map_nil,List.tail_cons,Option.getD_some,decide_true,decide_false,List.drop_succ_cons,List.drop_zero]);exact rfl))
local macro_rules | `(tactic| walk_at "n")=>`(tactic| ((with_reducible first | refine Bz (e':=?e9) ?h9 ?_ | refine zC (e':=?e9) ?h9 ?_ | refine CD (e':=?e9) ?h9 ?_ | refine IP (e':=?e9) ?h9 ?_ | refine IY (e':=?e9) ?h9 ?_ | refine IF (e':=?e9) ?h9 ?_ | refine Jm (e':=?e9) ?h9 ?_ | refine Jj (e':=?e9) ?h9 ?_ | refine Gw (e':=?e9) ?h9 ?_ | refine xT (e':=?e9) ?h9 ?_ | refine F8 (e':=?e9) ?h9 ?_ | refine GO (e':=?e9) ?h9 ?_ | refine Ew (e':=?e9) ?h9 ?_ | refine Df (e':=?e9) ?h9 ?_ | refine Dy (e':=?e9) ?h9 ?_ | refine yn (e':=?e9) ?h9 ?_ | refine A9 (e':=?e9) ?h9 ?_ | refine CC (e':=?e9) ?h9 ?_ | refine DB (e':=?e9) ?h9 ?_);(case h9=>walk_at "n=")))
local macro_rules | `(tactic| walk_at "soft")=>`(tactic| first | exact GH | exact FP | exact Eb | assumption)
local macro_rules | `(tactic| walk_at "l")=>`(tactic| (rename_i h9;apply qe.out h9;clear h9;dsimp only [vb];intros))
local macro_rules | `(tactic| walk_at "L1")=>`(tactic| first | exact (rfl:qe [] []) | refine ⟨_,?_,rfl⟩ | ((refine ⟨_,_,?s9,?_,rfl⟩);(case s9=>walk_at "soft")))
local macro_rules | `(tactic| walk_at "L")=>`(tactic| repeat walk_at "L1")
local macro_rules | `(tactic| walk_at "q")=>`(tactic| first | walk_at "q0" | ((show HB _ _ _ _);refine ⟨_,_,_,rfl,rfl,rfl,?_⟩) | ((show HK _ _ _ _ _);refine ⟨_,_,rfl,rfl,?_⟩) | ((show Bd _ _ _ _);(refine ⟨_,rfl,ux rfl ?s9,?_⟩);(case s9=>walk_at "soft")) | ((show tK _ _ _ _);(refine ⟨_,rfl,ux rfl ?s9,?_⟩);(case s9=>walk_at "soft")))
local macro_rules | `(tactic| walk_at "fT1")=>`(tactic| ((refine pA ?f9 ?_);(case f9=>((refine ux rfl ?s9);(case s9=>walk_at "soft")))))
local macro_rules | `(tactic| walk_at "fT")=>`(tactic| ((refine BQ (e2:=?e9) ?h9 ?_);(case h9=>((repeat walk_at "fT1");exact rfl))))
local macro_rules | `(tactic| walk_at "f")=>`(tactic| ((refine GY ?h9 ?_);(case h9=>((refine ux rfl ?s9);(case s9=>walk_at "soft")));walk_at "n"))
local macro_rules | `(tactic| walk_at "ps1")=>`(tactic| ((fail_if_success (with_reducible refine isEq ?_));walk_at "p"))
local macro_rules | `(tactic| walk_at "ps")=>`(tactic| repeat walk_at "ps1")
theorem j8 {c:Bool} {a b:Prop} (h1:c=true->a) (h2:c=false->b):if c=true then a else b:=by
 cases c with
 | true=>rw [JB rfl];exact h1 rfl
 | false=>rw [Jz (by decide)];exact h2 rfl
noncomputable def yo (cs:List Int) (p l:Int):PyData:=.dict [(.str "script", .list (cs.map .int)),(.str "at", .int p),(.str "left", .int l)]
theorem AD {ns:List Int} {Q:PR->List PyData->Prop} (q:Q (.frs (yo ns 0 0)) []):WF tN [.list (ns.map .int)] Q:=⟨_,_,rfl,q⟩
theorem yw {cs:List Int} {p l m:Int} {Q:PR->List PyData->Prop} (hp:0<=p) (hb:p < 2 ^ 60) (hl:0<=l) (h0:0 < m) (hm:m < 2 ^ 200) (q:∀ v p' l',0<=v->v < m->0<=p'->p'<=p+1->0<=l'->Q (.dat (.int v)) [yo cs p' l']):WF ax [yo cs p l,.int m] Q:=by
 refine cJ rfl ?_;have m0:∀ x:Int,0<=x % m/\x % m < m:=fun x=>⟨Me _ (by omega),LW _ h0⟩;have d0:∀ x:Int,0<=x->0<=x / m:=fun x h=>Int.ediv_nonneg h (Int.le_of_lt h0);have fin:∀ c:Int,0<=(if c < 0 then -c else c):=fun c=>by split <;> omega
 unfold q8;walk_at "pp";refine j8 (fun e0=>?_) (fun e0=>?_)
 ·walk_at "pp";refine j8 (fun e1=>?_) (fun e1=>?_)
  ·have h1:(0:Int) < (((cs.map PyData.int).length:Nat):Int):=Kq e1;obtain ⟨d,hd,ed⟩:=atV (xs:=cs.map PyData.int) (Me p (by omega)) (LW p h1);obtain ⟨c,_,rfl⟩:=Kh.mp hd;walk_at "pp";refine uk rfl ed ?_;clear ed hd;walk_at "pp";refine j8 (fun e2=>?_) (fun e2=>?_)
   ·walk_at "pp";exact q _ _ _ (m0 _).1 (m0 _).2 (by omega) (by omega) hl
   ·walk_at "pp";refine j8 (fun e3=>?_) (fun e3=>?_)
    ·walk_at "pp";exact q _ _ _ (m0 _).1 (m0 _).2 (by omega) (by omega) hl
    ·walk_at "pp";exact q _ _ _ (m0 _).1 (m0 _).2 (by omega) (by omega) (d0 _ (fin c))
  ·walk_at "pp";refine j8 (fun e2=>?_) (fun e2=>?_)
   ·walk_at "pp";exact q _ _ _ (m0 _).1 (m0 _).2 (by omega) (by omega) hl
   ·walk_at "pp";exact q _ _ _ (m0 _).1 (m0 _).2 (by omega) (by omega) hl
 ·walk_at "pp";exact q _ _ _ (m0 l).1 (m0 l).2 hp (by omega) (d0 l hl)
def bI (cs:List Int) (B:Nat) (d:PyData):Prop:=∃ p l:Int,d=yo cs p l/\0<=p/\p<=B/\0<=l
theorem bI.mono {cs:List Int} {B C:Nat} {d:PyData} (h:bI cs B d) (hb:B<=C):bI cs C d:=by
 obtain ⟨p,l,e,a,b,c⟩:=h;exact ⟨p,l,e,a,by omega,c⟩
theorem vD {cs:List Int} {B:Nat} {pn:PyData} {m:Int} {e1:En} {Q:RV->En->Prop} {i:Nat} (hi:aC e1 i=some pn) (hP:bI cs B pn) (hb:B < 2 ^ 60) (h0:0 < m) (hm:m < 2 ^ 200) (q:∀ v pn',bI cs (B+1) pn'->0<=v->v < m->Q (.dat (.int v)) (fH e1 i pn')):oU ax [.bor i,.dat (.int m)] e1 Q:=by
 obtain ⟨p,l,rfl,hp,hb',hl⟩:=hP;refine ae (ds:=[yo cs p l,.int m]) (is:=[i]) ?_ rfl (yw hp (by omega) hl h0 hm fun v p' l' a b c d e=>⟨?_,q v _ ⟨p',l',rfl,c,by omega,e⟩ a b⟩)
 ·show iO e1 [.ino,.dat] _=_;simp only [iO,GX,hi]
 ·rfl
def Ltr (x:Str):Prop:=∀ c∈x.cps.toList,97<=c/\c<=122
abbrev abc:Str := "abcdefghijklmnopqrstuvwxyz"
theorem iI (x y:Str):(x++y).length=x.length+y.length:=iE x y
theorem iK (x y:Str):(x++y).cps.toList=x.cps.toList++y.cps.toList:=by
 show (x.cps++y.cps).toList=_;simp
theorem c0 (c:Nat):(⟨#[c]⟩:Str).length=1:=rfl
theorem rK {x y:Str} (hx:Ltr x) (hy:Ltr y):Ltr (x++y):=fun c hc=>by
 rw [iK] at hc;rcases Kb.mp hc with h | h
 ·exact hx c h
 ·exact hy c h
inductive Nd
 | num (n:Int)
 | eh (x:Str)
 | aU (x:Str)
noncomputable def Nd.enc:Nd->PyData
 | .num n=>.int n
 | .eh x=>.tuple [.str x]
 | .aU x=>.str x
noncomputable def Nd.key:Nd->Ky
 | .num n=>(0,n, "")
 | .eh x=>(1,0,x)
 | .aU x=>(2,0,x)
noncomputable def GW (k:Ky):PyData:=.tuple [.int k.1,.int k.2.1,.str k.2.2]
noncomputable def ltN (a b:Nd):Bool:=ltK a.key b.key
theorem zu:∀ {a b:Nd},a.key=b.key->a=b
 | .num n,.num m,h=>by have:n=m:=congrArg (·.2.1) h;rw [this]
 | .eh x,.eh y,h=>by have:x=y:=congrArg (·.2.2) h;rw [this]
 | .aU x,.aU y,h=>by have:x=y:=congrArg (·.2.2) h;rw [this]
 | .num _,.eh _,h=>by have:=congrArg (·.1) h;simp [Nd.key] at this
 | .num _,.aU _,h=>by have:=congrArg (·.1) h;simp [Nd.key] at this
 | .eh _,.num _,h=>by have:=congrArg (·.1) h;simp [Nd.key] at this
 | .eh _,.aU _,h=>by have:=congrArg (·.1) h;simp [Nd.key] at this
 | .aU _,.num _,h=>by have:=congrArg (·.1) h;simp [Nd.key] at this
 | .aU _,.eh _,h=>by have:=congrArg (·.1) h;simp [Nd.key] at this
theorem x8:∀ {a b:Nd},PyData.eqv a.enc b.enc=true->a=b
 | .num n,.num m,h=>by
  have:n=m:=by simpa [Nd.enc,PyData.eqv] using h
  rw [this]
 | .eh x,.eh y,h=>by
  have:x=y:=by simpa [Nd.enc,PyData.eqv,PyData.eqvAll] using h
  rw [this]
 | .aU x,.aU y,h=>by
  have:x=y:=by simpa [Nd.enc,PyData.eqv] using h
  rw [this]
 | .num _,.eh _,h=>by simp [Nd.enc,PyData.eqv] at h
 | .num _,.aU _,h=>by simp [Nd.enc,PyData.eqv] at h
 | .eh _,.num _,h=>by simp [Nd.enc,PyData.eqv] at h
 | .eh _,.aU _,h=>by simp [Nd.enc,PyData.eqv] at h
 | .aU _,.num _,h=>by simp [Nd.enc,PyData.eqv] at h
 | .aU _,.eh _,h=>by simp [Nd.enc,PyData.eqv] at h
theorem uF (a:Nd):PyData.eqv a.enc a.enc=true:=by
 cases a <;> simp [Nd.enc,PyData.eqv,PyData.eqvAll]
theorem xI (a:Nd):noD a.enc=true:=by cases a <;> rfl
theorem yt (a:Nd):a.enc.depth<=2:=by
 cases a with
 | num n=>simp [Nd.enc,PyData.depth]
 | aU n=>simp [Nd.enc,PyData.depth]
 | eh n=>simp [Nd.enc,PyData.depth,PyData.depthAll]
theorem xt {a:Nd} {Q:PR->List PyData->Prop} (q:Q (.dat (.str (match a with | .num _ => "number" | .eh _ => "said" | .aU _ => "thing"))) []):WF fw [a.enc] Q:=by
 refine cJ rfl ?_;unfold i6;cases a <;> (unfold Nd.enc;walk_at "pp"; exact q)
theorem Cf {a:Nd} {Q:PR->List PyData->Prop} (q:Q (.dat (GW a.key)) []):WF dX [a.enc] Q:=by
 refine cJ rfl ?_;unfold iy;walk_at "pp";refine ae (ds:=[a.enc]) (is:=[]) rfl rfl (xt ⟨rfl,?_⟩);walk_at "n";cases a with
 | num n =>
  unfold Nd.enc;walk_at "pp";exact q
 | eh n =>
  unfold Nd.enc;walk_at "pp";exact q
 | aU n =>
  unfold Nd.enc;walk_at "pp";exact q
def Nd.sm (a:Nd):Prop:=match a with | .num n=>-1000000000000000000000000000000 < n/\n < 1000000000000000000000000000000 | .eh x=>Ltr x/\x.length<=8 | .aU x=>Ltr x/\x.length<=8/\0 < x.length
structure Fc where
 t:Str
 b:Str
 n:Nd
noncomputable def Fc.enc (f:Fc):PyData:=.tuple [.str f.t,.str f.b,f.n.enc]
def Nam (x:Str):Prop:=Ltr x/\x.length<=8/\0 < x.length
def Fc.sm (f:Fc):Prop:=Nam f.t/\Nam f.b/\f.n.sm
noncomputable def Fc.key (f:Fc):Fy:=(f.t,f.b,f.n.key)
noncomputable def e7 (a b:Fc):Bool:=ltF a.key b.key
theorem m5 {a b:Fc} (h:a.key=b.key):a=b:=by
 obtain ⟨a1,a2,a3⟩:=a;obtain ⟨b1,b2,b3⟩:=b;have h1:a1=b1:=congrArg (·.1) h;have h2:a2=b2:=congrArg (·.2.1) h;have h3:a3=b3:=zu (congrArg (·.2.2) h);rw [h1,h2,h3]
theorem d8 {a b:Fc} (h:PyData.eqv a.enc b.enc=true):a=b:=by
 obtain ⟨a1,a2,a3⟩:=a;obtain ⟨b1,b2,b3⟩:=b;have h:a1=b1/\a2=b2/\PyData.eqv a3.enc b3.enc=true:=by simpa [Fc.enc,PyData.eqv,PyData.eqvAll] using h
 rw [h.1,h.2.1,x8 h.2.2]
theorem cT (a:Fc):PyData.eqv a.enc a.enc=true:=by
 simp [Fc.enc,PyData.eqv,PyData.eqvAll,uF]
theorem gh (a:Fc):noD a.enc=true:=by
 simp [Fc.enc,noD,dq,xI]
theorem d7 (a:Fc):a.enc.depth<=3:=by
 refine iL (k:=2) fun d hd=>?_;simp only [JV,KI,LL] at hd;rcases hd with rfl | rfl | rfl
 ·simp [PyData.depth]
 ·simp [PyData.depth]
 ·exact yt _
theorem fV (xs:List Fc):fP (.list (xs.map Fc.enc))=true:=by
 refine lZ ?_ (Ka (i9 (k:=3) fun d hd=>?_) (by omega))
 ·simp only [noD];exact jq.mpr fun d hd=>by
   obtain ⟨x,_,rfl⟩:=Kh.mp hd;exact gh x
 ·obtain ⟨x,_,rfl⟩:=Kh.mp hd;exact d7 x
theorem bF (a:Fc):hk6 a.enc=true:=by
 unfold hk6;rw [Kl];refine ⟨?_,J6 (Ka (d7 a) (by omega))⟩;obtain ⟨t,b,n⟩:=a;cases n <;> rfl
theorem yA {a:Fc} {Q:PR->List PyData->Prop} (q:Q (.dat (.tuple [.str a.t,.str a.b,GW a.n.key])) []):WF bA [a.enc] Q:=by
 refine cJ rfl ?_;unfold hZ Fc.enc;walk_at "pp";refine ae (ds:=[a.n.enc]) (is:=[]) rfl rfl (Cf ⟨rfl,?_⟩);walk_at "n";walk_at "pp";exact q
noncomputable def chB (c:Nat):Bool:=decide (97<=c)&&decide (c<=122)
noncomputable def mJ (d:PyData) (k:Int):Bool:=match d with
 | .str x=>decide (k<=(x.length:Int))&&(decide ((x.length:Int)<=8)&&x.cps.toList.all chB)
 | _=>false
theorem IZ (c:Nat):leS (Str.ofString "a") ⟨#[c]⟩=decide (97<=c):=by
 have e:(Str.ofString "a").cps.toList=[97]:=by decide +kernel
 unfold leS;rw [e];by_cases h:97<=c
 ·rw [J6 h,J3]
  ·rfl
  ·intro z;have:c < 97:=by simpa [Mi] using z
   omega
 ·rw [J3 h,J6]
  ·rfl
  ·simp [Mi];omega
theorem Ij (c:Nat):leS ⟨#[c]⟩ (Str.ofString "z")=decide (c<=122):=by
 have e:(Str.ofString "z").cps.toList=[122]:=by decide +kernel
 unfold leS;rw [e];by_cases h:c<=122
 ·rw [J6 h,J3]
  ·rfl
  ·intro z;have:122 < c:=by simpa [Mi] using z
   omega
 ·rw [J3 h,J6]
  ·rfl
  ·simp [Mi];omega
theorem dJ {d:PyData} {k:Int} {Q:PR->List PyData->Prop} (q:Q (.dat (.bool (mJ d k))) []):WF bj [d,.int k] Q:=by
 refine cJ rfl ?_;unfold dC;cases d with
 | str x =>
  replace q:Q (.dat (.bool (decide (k<=(x.length:Int))&&(decide ((x.length:Int)<=8)&&x.cps.toList.all chB)))) []:=q;walk_at "pp";refine j8 (fun c1=>?_) (fun c1=>?_)
  ·have c1:decide (k<=(x.length:Int))=true:=c1;walk_at "pp";rw [c1,Lb] at q;refine j8 (fun c2=>?_) (fun c2=>?_)
   ·have c2:(!decide ((x.length:Int)<=8))=true:=c2;have c2:decide ((x.length:Int)<=8)=false:=by simpa using c2
    walk_at "pp";rw [c2] at q;exact q
   ·have c2:(!decide ((x.length:Int)<=8))=false:=c2;have c2:decide ((x.length:Int)<=8)=true:=by simpa using c2
    rw [c2,Lb] at q;walk_at "pp";refine dW (fun i ys ec=>ys=((x.cps.toList.take i).map chB).map .bool/\ec=[]) ⟨rfl,rfl⟩ ?_ ?_
    ·rintro i d ys ec hd ⟨rfl,rfl⟩;rw [JU] at hd;obtain ⟨c,hc,rfl⟩:=J7.mp hd;have e0:((x.cps.toList.take (i+1)).map chB).map PyData.bool=((x.cps.toList.take i).map chB).map PyData.bool++[.bool (chB c)]:=by rw [<- take_snoc hc,Ko,Ko];rfl
     refine ig ?_;walk_at "pp";have e1:=IZ c;have e2:=Ij c;refine j8 (fun d1=>?_) (fun d1=>?_)
     ·have d1:leS (Str.ofString "a") ⟨#[c]⟩=true:=d1;walk_at "pp";refine ⟨?_,rfl⟩;rw [e0];unfold chB;rw [<- e1,d1,<-e2];rfl
     ·have d1:leS (Str.ofString "a") ⟨#[c]⟩=false:=d1;walk_at "pp";refine ⟨?_,rfl⟩;rw [e0];unfold chB;rw [<- e1,d1];rfl
    ·rintro ys ec ⟨rfl,rfl⟩;rw [Jt,KH];walk_at "n";walk_at "pp";refine w_all (bs:=x.cps.toList.map chB) rfl ?_;have e3:(x.cps.toList.map chB).all id=x.cps.toList.all chB:=by rw [List.all_map];rfl
     rw [e3];walk_at "pp";exact q
  ·have c1:decide (k<=(x.length:Int))=false:=c1;walk_at "pp";rw [c1] at q;exact q
 | _ =>
  walk_at "pp";exact q
theorem fg {d:PyData} {Q:PR->List PyData->Prop} (q:Q (.dat (.bool (mJ d 1))) []):WF bT [d] Q:=by
 refine cJ rfl ?_;unfold jf;walk_at "pp";refine ae (is:=[]) rfl rfl (dJ ⟨rfl,?_⟩);walk_at "pp";exact q
noncomputable def whB:PyData->Bool
 | .int _=>true
 | _=>false
theorem mB {d:PyData} {Q:PR->List PyData->Prop} (q:Q (.dat (.bool (whB d))) []):WF dR [d] Q:=by
 refine cJ rfl ?_;unfold iJ;cases d <;> (walk_at "pp"; exact q)
noncomputable def Eu:PyData->Bool
 | .int i=>decide ((if i < 0 then -i else i)<=999999999999999999999999999999)
 | _=>false
theorem k8 {d:PyData} {Q:PR->List PyData->Prop} (q:Q (.dat (.bool (Eu d))) []):WF cW [d] Q:=by
 refine cJ rfl ?_;unfold fG;walk_at "pp";refine ae (is:=[]) rfl rfl (mB ⟨rfl,?_⟩);cases d <;> (walk_at "pp"; exact q)
noncomputable def xA:PyData->Bool
 | .tuple [x]=>mJ x 0
 | _=>false
theorem pj {d:PyData} {Q:PR->List PyData->Prop} (q:Q (.dat (.bool (xA d))) []):WF fk [d] Q:=by
 refine cJ rfl ?_;unfold je;cases d with
 | tuple ds =>
  match ds,q with
  | [],q=>walk_at "pp"; exact q
  | [x],q =>
   walk_at "pp";refine ae (is:=[]) rfl rfl (dJ ⟨rfl,?_⟩);walk_at "pp";exact q
  | x :: y :: r,q =>
   walk_at "pp";exact q
 | _ =>
  walk_at "pp";exact q
noncomputable def jU (d:PyData):Bool:=mJ d 1||(Eu d||xA d)
theorem oG {d:PyData} {Q:PR->List PyData->Prop} (q:Q (.dat (.bool (jU d))) []):WF fy [d] Q:=by
 refine cJ rfl ?_;unfold i0;unfold jU at q;walk_at "pp";refine ae (is:=[]) rfl rfl (fg ⟨rfl,?_⟩);walk_at "pp";refine j8 (fun c=>?_) (fun c=>?_)
 ·rw [c,Bool.true_or] at q;walk_at "pp";exact q
 ·rw [c,Bool.false_or] at q;walk_at "pp";refine ae (is:=[]) rfl rfl (k8 ⟨rfl,?_⟩);walk_at "pp";refine j8 (fun c=>?_) (fun c=>?_)
  ·rw [c,Bool.true_or] at q;walk_at "pp";exact q
  ·rw [c,Bool.false_or] at q;walk_at "pp";refine ae (is:=[]) rfl rfl (pj ⟨rfl,?_⟩);walk_at "pp";exact q
noncomputable abbrev Srt (L:List Fc):Prop:=L.Pairwise fun x y=>e7 x y=true
theorem pU (a:Fc):e7 a a=false:=ue _
theorem wZ {a b c:Fc} (h1:e7 a b=true) (h2:e7 b c=true):e7 a c=true:=wo h1 h2
theorem xN {a b:Fc} (h:e7 a b=false) (h2:e7 b a=false):a=b:=by
 apply Lu;intro hn;have:=ri (fun z=>hn (m5 z)) h;unfold e7 at h2;rw [this] at h2;cases h2
theorem a9 {L:List Fc} (h:Srt L):L.Nodup:=h.imp fun {a b} z e=>by rw [e,pU] at z;cases z
theorem yg {L M:List Fc} (h1:Srt L) (h2:Srt M) (h:∀ a,a∈L↔a∈M):L=M:=by
 refine List.Perm.eq_of_pairwise (le:=fun x y=>e7 x y=true) (fun a b _ _ z w=>?_) h1 h2 ?_
 ·have:=wZ z w;rw [pU] at this;cases this
 ·exact (K4 (a9 h1) (a9 h2)).mpr h
noncomputable abbrev kvs (U:List Fc):List (PyData×PyData):=U.map fun a=>(a.enc,PyData.bool true)
theorem BP {U:List Fc} {a:Fc} (h:a∈U):putD (kvs U) a.enc (.bool true)=kvs U:=by
 unfold putD;rw [JB (by rw [LJ];exact ⟨_,Kh.mpr ⟨a,h,rfl⟩,cT a⟩),Ls];refine List.map_congr_left fun b _=>?_;show (if PyData.eqv b.enc a.enc=true then (b.enc,PyData.bool true) else (b.enc,PyData.bool true))=_;split <;> rfl
theorem sr {U:List Fc} {a:Fc} (h:a ∉ U):putD (kvs U) a.enc (.bool true)=kvs (U++[a]):=by
 unfold putD;rw [Jz (fun z=>?_)]
 ·unfold kvs;rw [Ko];rfl
 ·rw [LJ] at z;obtain ⟨x,hx,e⟩:=z;obtain ⟨b,hb,rfl⟩:=Kh.mp hx;have:=d8 (a:=b) (b:=a) e;exact h (this▸hb)
theorem uO (a:Fc):Sg.zN fyS bA a.enc=some a.key:=by
 obtain ⟨pr,outs,h,rfl,rfl⟩:=yA (a:=a) (Q:=fun pr outs=>pr=.dat (.tuple [.str a.t,.str a.b,GW a.n.key])/\outs=[]) ⟨rfl,rfl⟩;unfold Sg.zN;rw [h];rfl
theorem g8:∀ U:List Fc,Sg.jI fyS bA (U.map Fc.enc)=some (U.map Fc.key)
 | []=>rfl
 | a :: U=>by
  rw [List.map_cons,List.map_cons];unfold Sg.jI;rw [uO,g8 U];rfl
theorem g6 {U:List Fc} (h:U.Nodup):(U.map Fc.key).Nodup:=by
 unfold List.Nodup;rw [L0];exact h.imp fun {a b} z e=>z (m5 e)
theorem qJ {U L:List Fc} (hU:U.Nodup) (hL:Srt L) (hm:∀ a,a∈L↔a∈U):(Sg.p9 (S:=fyS) ((U.map Fc.key).zip (U.map Fc.enc))).map (·.2)=L.map Fc.enc :=
 B5 (S:=fyS) Fc.key Fc.enc (g6 hU) hL ((K4 (a9 hL) hU).mpr hm)
noncomputable def bR:PyData->Bool
 | .tuple [a,b,c]=>mJ a 1&&(mJ b 1&&jU c)
 | _=>false
theorem Jg:∀ (ds:List PyData),(∃ a b c,ds=[a,b,c])\/(ds.length≠3/\bR (.tuple ds)=false)
 | []=>.inr ⟨by decide,rfl⟩
 | [a]=>.inr ⟨by simp,rfl⟩
 | [a,b]=>.inr ⟨by simp,rfl⟩
 | [a,b,c]=>.inl ⟨a,b,c,rfl⟩
 | a :: b :: c :: d :: r=>.inr ⟨by simp,rfl⟩
theorem ft {d:PyData} {Q:PR->List PyData->Prop} (q:Q (.dat (.bool (bR d))) []):WF dh [d] Q:=by
 refine cJ rfl ?_;unfold i8;cases d with
 | tuple ds =>
  rcases Jg ds with ⟨a,b,c,rfl⟩ | ⟨hn,hf⟩
  ·replace q:Q (.dat (.bool (mJ a 1&&(mJ b 1&&jU c)))) []:=q;walk_at "pp";refine ae (is:=[]) rfl rfl (fg ⟨rfl,?_⟩);walk_at "pp";refine j8 (fun c1=>?_) (fun c1=>?_)
   ·rw [c1,Lb] at q;walk_at "pp";refine ae (is:=[]) rfl rfl (fg ⟨rfl,?_⟩);walk_at "pp";refine j8 (fun c2=>?_) (fun c2=>?_)
    ·rw [c2,Lb] at q;walk_at "pp";refine ae (is:=[]) rfl rfl (oG ⟨rfl,?_⟩);walk_at "pp";exact q
    ·rw [c2] at q;walk_at "pp";exact q
   ·rw [c1] at q;walk_at "pp";exact q
  ·walk_at "pp";have hq:PyData.eqv (.int (ds.length:Int)) (.int 3)=false:=by
    simp only [PyData.eqv];rw [beq_eq_false_iff_ne];omega
   refine lr (by show (!PyData.eqv (.int (ds.length:Int)) (.int 3))=true;rw [hq];rfl) ?_;walk_at "pp";rw [hf] at q;exact q
 | _ =>
  walk_at "pp";exact q
theorem j0 {x:Str} (h:Nam x):mJ (.str x) 1=true:=by
 obtain ⟨h1,h2,h3⟩:=h;show (decide ((1:Int)<=(x.length:Int))&&(decide ((x.length:Int)<=8)&&x.cps.toList.all chB))=true;rw [J6 (by omega),J6 (by omega),Lb,Lb,Lf];intro c hc;have:=h1 c hc;unfold chB;rw [J6 this.1,J6 this.2];rfl
theorem uG {a:Nd} (h:a.sm):jU a.enc=true:=by
 unfold jU;cases a with
 | num n =>
  have h:-1000000000000000000000000000000 < n/\n < 1000000000000000000000000000000:=h;have:Eu (Nd.enc (.num n))=true:=by
   show decide ((if n < 0 then -n else n)<=999999999999999999999999999999)=true;refine J6 ?_;split <;> omega
  rw [this];simp
 | eh x =>
  have h:Ltr x/\x.length<=8:=h;have:xA (Nd.enc (.eh x))=true:=by
   show (decide ((0:Int)<=(x.length:Int))&&(decide ((x.length:Int)<=8)&&x.cps.toList.all chB))=true;rw [J6 (by omega),J6 (by omega),Lb,Lb,Lf];intro c hc;have:=h.1 c hc;unfold chB;rw [J6 this.1,J6 this.2];rfl
  rw [this];simp
 | aU x =>
  have:mJ (Nd.enc (.aU x)) 1=true:=j0 h;rw [this];rfl
theorem de {f:Fc} (h:f.sm):bR f.enc=true:=by
 show (mJ _ 1&&(mJ _ 1&&jU _))=true;rw [j0 h.1,j0 h.2.1,uG h.2.2];rfl
local macro_rules | `(tactic| walk_at "d")=>`(tactic| ((repeat walk_at "p");(refine vD (cs:=?c9) (B:=?b9) (pn:=?n9) (m:=?m9) (hi:=?hi9) (hP:=?hP9) ?hb9 ?h09 ?hm9 ?_);(case hi9=>exact rfl);(case hP9=>assumption);(case hb9=>omega);(case h09=>first | decide | omega);(case hm9=>first | decide | omega)))
theorem FR {x:Str} {k:Int} (h:0<=k):(ur x none (some k)).cps.toList=x.cps.toList.take k.toNat:=by
 have:=uR (xs:=x.cps.toList) h;unfold L2.cutD at this;rw [mf] at this;unfold ur;simpa using this
theorem Cg:∀ n < 26,abc.cps.toList[n]?=some (97+n):=by decide +kernel
theorem zK {r:Int} (h0:0<=r) (h1:r < 26):atI abc.cps.toList r=some (97+r.toNat):=by
 have:=iu (xs:=abc.cps.toList) (j:=r.toNat) (Cg r.toNat (by omega))
 rwa [LP h0] at this
theorem GR {r:Int} (h0:0<=r) (h1:r < 26):Ltr ⟨#[97+r.toNat]⟩:=fun c hc=>by
 have:c=97+r.toNat:=by simpa using hc
 omega
abbrev wds:List PyData:=[.str "any", .str "keeps", .str "least", .str "is", .str "all", .str "many"]
theorem e6:∀ w∈wds,∃ z:Str,w=.str z/\z.length<=5/\Ltr z:=by
 intro w h;simp only [JV,KI,LL] at h;rcases h with rfl | rfl | rfl | rfl | rfl | rfl <;> exact ⟨_,rfl,by decide +kernel,by unfold Ltr;decide +kernel⟩
theorem me {cs:List Int} {B:Nat} {pn:PyData} {m:Int} {Q:PR->List PyData->Prop} (hP:bI cs B pn) (hb:B < 2 ^ 59) (h0:0<=m) (h1:m<=8) (q:∀ (x:Str) pn',bI cs (B+10) pn'->Ltr x->(x.length:Int)=m->Q (.dat (.str x)) [pn']):WF gu [pn,.int m] Q:=by
 refine cJ rfl ?_;unfold tj;walk_at "d";intro w1 pn1 hP1 w10 w11;walk_at "n";walk_at "pp";obtain ⟨d1,hd1,ed1⟩:=atV (xs:=wds) w10 w11;obtain ⟨z1,rfl,hz1,lz1⟩:=e6 d1 hd1;refine uk rfl ed1 ?_;clear ed1 hd1;walk_at "d";intro w2 pn2 hP2 w20 w21;walk_at "n";walk_at "pp";obtain ⟨d2,hd2,ed2⟩:=atV (xs:=([.str "", .str "", .str "", .str z1]:List PyData)) w20 w21;have hc:∃ z:Str,d2=.str z/\z.length<=5/\Ltr z:=by
  simp only [JV,KI,LL] at hd2;rcases hd2 with rfl | rfl | rfl | rfl
  ·exact ⟨_,rfl,by decide,by unfold Ltr;decide⟩
  ·exact ⟨_,rfl,by decide,by unfold Ltr;decide⟩
  ·exact ⟨_,rfl,by decide,by unfold Ltr;decide⟩
  ·exact ⟨_,rfl,hz1,lz1⟩
 obtain ⟨z2,rfl,hz2,lz2⟩:=hc;refine uk rfl ed2 ?_;clear ed2 hd2;walk_at "pp";refine Jd (fun k e=>∃ (x:Str) (pn':PyData),Ltr x/\x.length<=8/\k=8 - x.length/\bI cs (B+2+x.length) pn'/\e=([.ino pn',.dat (.int m),.dat (.str x)]:En)) (8 - z2.length) (by omega) ⟨z2,pn2,lz2,by omega,rfl,hP2.mono (by omega),rfl⟩ ?_;rintro k e hk ⟨x,pn',hx,hxl,rfl,hP',rfl⟩;walk_at "pp";refine j8 (fun c1=>?_) (fun c1=>?_)
 ·have c1:(x.length:Int) < m:=Kq c1;walk_at "d";intro w4 pn4 hP4 w40 w41;walk_at "n";walk_at "pp";refine yN rfl (zK w40 w41) ?_;walk_at "pp";refine Dh rfl (by rw [c0];show _<=2 ^ 24;omega) ?_;walk_at "pp";refine ⟨8 - (x.length+1),by omega,_,pn4,rK hx (GR w40 w41),by rw [iI,c0];omega,by rw [iI,c0],by rw [iI,c0];exact hP4.mono (by omega),rfl⟩
 ·have c1:¬(x.length:Int) < m:=LC c1;walk_at "pp";have e1:=FR (x:=x) h0;refine q _ pn' (hP'.mono (by omega)) (fun c hc=>?_) ?_
  ·rw [e1] at hc;exact hx c (List.mem_of_mem_take hc)
  ·rw [<- mf,e1,Kp,mf];omega
theorem uf {cs:List Int} {B:Nat} {pn:PyData} {Q:PR->List PyData->Prop} (hP:bI cs B pn) (hb:B < 2 ^ 56) (q:∀ (f:Fc) pn',bI cs (B+50) pn'->f.sm->Q (.dat f.enc) [pn']):WF jR [pn] Q:=by
 refine cJ rfl ?_;unfold rZ;walk_at "d";intro w1 pn1 hP1 w10 w11;walk_at "n";walk_at "d";intro w2 pn2 hP2 w20 w21;walk_at "n";walk_at "pp";refine ae (ds:=[pn2,.int w2]) (is:=[0]) rfl rfl (me hP2 (by omega) w20 (by omega) fun x pn3 hP3 hx hlx=>⟨rfl,?_⟩);walk_at "n";walk_at "pp";refine ae (ds:=[pn3,.int 2]) (is:=[0]) rfl rfl (me hP3 (by omega) (by decide) (by decide) fun y pn4 hP4 hy hly=>⟨rfl,?_⟩);walk_at "n";walk_at "d";intro w5 pn5 hP5 w50 w51;walk_at "n";walk_at "pp";obtain ⟨d,hd,ed⟩:=atV (xs:=([.int (w1 - 2),.tuple [.str x],.str y]:List PyData)) w50 w51;refine uk rfl ed ?_;have hn:∃ a:Nd,a.sm/\d=a.enc:=by
  simp only [JV,KI,LL] at hd;rcases hd with rfl | rfl | rfl
  ·exact ⟨.num (w1 - 2),⟨by omega,by omega⟩,rfl⟩
  ·exact ⟨.eh x,⟨hx,by omega⟩,rfl⟩
  ·exact ⟨.aU y,⟨hy,by omega,by omega⟩,rfl⟩
 clear ed hd;obtain ⟨a,ha,rfl⟩:=hn;walk_at "n";walk_at "pp";refine ae (ds:=[pn5,.int 8]) (is:=[0]) rfl rfl (me hP5 (by omega) (by decide) (by decide) fun t pn7 hP7 ht hlt=>⟨rfl,?_⟩);walk_at "n";walk_at "d";intro w8 pn8 hP8 w80 w81;walk_at "n";walk_at "pp";obtain ⟨d,hd,ed⟩:=atV (xs:=([.str "a", .str "b", .str "ab", .str t]:List PyData)) w80 w81;have hn:∃ z:Str,Nam z/\d=.str z:=by
  simp only [JV,KI,LL] at hd;rcases hd with rfl | rfl | rfl | rfl
  ·exact ⟨_,⟨by unfold Ltr;decide,by decide,by decide⟩,rfl⟩
  ·exact ⟨_,⟨by unfold Ltr;decide,by decide,by decide⟩,rfl⟩
  ·exact ⟨_,⟨by unfold Ltr;decide,by decide,by decide⟩,rfl⟩
  ·exact ⟨t,⟨ht,by omega,by omega⟩,rfl⟩
 obtain ⟨z,hz,rfl⟩:=hn;refine uk rfl ed ?_;clear ed hd;walk_at "d";intro w9 pn9 hP9 w90 w91;walk_at "n";walk_at "pp";obtain ⟨d,hd,ed⟩:=atV (xs:=([.str "a", .str "c"]:List PyData)) w90 w91;have hn:∃ z:Str,Nam z/\d=.str z:=by
  simp only [JV,KI,LL] at hd;rcases hd with rfl | rfl
  ·exact ⟨_,⟨by unfold Ltr;decide,by decide,by decide⟩,rfl⟩
  ·exact ⟨_,⟨by unfold Ltr;decide,by decide,by decide⟩,rfl⟩
 obtain ⟨b,hb2,rfl⟩:=hn;refine uk rfl ed ?_;walk_at "pp";exact q ⟨z,b,a⟩ pn9 (hP9.mono (by omega)) ⟨hz,hb2,ha⟩
abbrev abt:Str := "abcdefghijklmnopqrst"
theorem zX:∀ n < 20,abt.cps.toList[n]?=some (97+n):=by decide +kernel
theorem wu {r:Int} (h0:0<=r) (h1:r < 20):atI abt.cps.toList r=some (97+r.toNat):=by
 have:=iu (xs:=abt.cps.toList) (j:=r.toNat) (zX r.toNat (by omega))
 rwa [LP h0] at this
noncomputable def fcW (w:Int):Fc:=⟨"x" ++ ⟨#[97+(w / 20).toNat]⟩, "b", .aU ⟨#[97+(w % 20).toNat]⟩⟩
theorem AK {w:Int} (h0:0<=w) (h1:w < 400):(fcW w).sm:=by
 have b1:0<=w / 20:=Int.ediv_nonneg h0 (by decide);have b3:0<=w % 20:=Me _ (by decide);have b4:w % 20 < 20:=LW _ (by decide);have n1:Nam ("x" ++ ⟨#[97+(w / 20).toNat]⟩):=⟨rK (by unfold Ltr;decide) (GR b1 (by omega)),by rw [iI,c0];decide,by rw [iI,c0];decide⟩;have n2:Nam "b" := ⟨by unfold Ltr;decide,by decide,by decide⟩;have n3:Nd.sm (.aU ⟨#[97+(w % 20).toNat]⟩):=⟨GR b3 (by omega),by rw [c0];decide,by rw [c0];decide⟩;exact ⟨n1,n2,n3⟩
theorem xp {w v:Int} (h0:0<=w) (h1:0<=v) (e:fcW w=fcW v):w=v:=by
 have e1:(("x" : Str)++⟨#[97+(w / 20).toNat]⟩).cps.toList=(("x" : Str)++⟨#[97+(v / 20).toNat]⟩).cps.toList:=congrArg (fun f=>f.t.cps.toList) e;rw [iK,iK] at e1;have e1:=List.append_cancel_left e1;have e2:(⟨#[97+(w % 20).toNat]⟩:Str)=⟨#[97+(v % 20).toNat]⟩:=Nd.aU.inj (congrArg Fc.n e);have e1:97+(w / 20).toNat=97+(v / 20).toNat:=by simpa using e1
 have e2:97+(w % 20).toNat=97+(v % 20).toNat:=by simpa using e2
 omega
theorem xM {cs:List Int} {B:Nat} {pn:PyData} {Q:PR->List PyData->Prop} (hP:bI cs B pn) (hb:B < 2 ^ 56) (q:∀ (fs:List Fc) pn',bI cs (B+2) pn'->0 < fs.length->fs.length<=400->(∀ f∈fs,f.sm)->fs.Nodup->Q (.frs (.list (fs.map Fc.enc))) [pn']):WF cz [pn] Q:=by
 refine cJ rfl ?_;unfold dY;walk_at "d";intro w2 pn1 hP1 w20 w21;walk_at "n";walk_at "d";intro w1 pn2 hP2 w10 w11;walk_at "n";walk_at "pp";refine ⟨⟨by omega,by omega⟩,?_⟩;refine dW (fun j ys ec=>ys=((List.range j).map fun (k:Nat)=>(9*((k:Int)+w2) % 400)).map .int/\ec=[.dat (.int w2)]) ⟨rfl,rfl⟩ ?_ ?_
 ·rintro j d ys ec hd ⟨rfl,rfl⟩;obtain ⟨rfl,hj⟩:=ju hd;refine ig ?_;walk_at "pp";refine ⟨?_,rfl⟩;rw [List.range_succ,Ko,Ko];rfl
 rintro ys ec ⟨rfl,rfl⟩;rw [qG];have hw:∀ w∈(List.range (398+w1).toNat).map (fun (k:Nat)=>(9*((k:Int)+w2) % 400)),0<=w/\w < 400:=fun w hw=>by
  obtain ⟨k,_,rfl⟩:=Kh.mp hw;exact ⟨Me _ (by decide),LW _ (by decide)⟩
 have hl:((List.range (398+w1).toNat).map (fun (k:Nat)=>(9*((k:Int)+w2) % 400))).length=(398+w1).toNat:=by rw [Jt,Kz]
 have hnd:((List.range (398+w1).toNat).map (fun (k:Nat)=>(9*((k:Int)+w2) % 400))).Nodup:=by
  unfold List.Nodup;rw [L0,Kv];intro i j hi hj hij;rw [Kz] at hi hj;rw [List.getElem_range,List.getElem_range];omega
 generalize (List.range (398+w1).toNat).map (fun (k:Nat)=>(9*((k:Int)+w2) % 400))=ws at hw hl hnd;walk_at "n";walk_at "pp";refine uW rfl ?_;refine dW (fun j ys ec=>ys=((ws.take j).map fcW).map Fc.enc/\ec=[.dat (.str abt)]) ⟨rfl,rfl⟩ ?_ ?_
 ·rintro j d ys ec hd ⟨rfl,rfl⟩;rw [JU] at hd;obtain ⟨w,hwj,rfl⟩:=J7.mp hd;have hw':=hw w (J5 hwj);have b1:0<=w / 20:=Int.ediv_nonneg hw'.1 (by decide);have b2:w / 20 < 20:=by omega
  have b3:0<=w % 20:=Me _ (by decide);have b4:w % 20 < 20:=LW _ (by decide);refine ig ?_;walk_at "pp";refine yN rfl (wu b1 b2) ?_;walk_at "pp";refine yN rfl (wu b3 b4) ?_;walk_at "pp";refine ⟨?_,rfl⟩;rw [<- take_snoc hwj,Ko,Ko];rfl
 ·rintro ys ec ⟨rfl,rfl⟩;rw [Jt,KH];walk_at "pp";refine q (ws.map fcW) pn2 (hP2.mono (by omega)) (by rw [Jt];omega) (by rw [Jt];omega) (fun f hf=>?_) ?_
  ·obtain ⟨w,hw1,rfl⟩:=Kh.mp hf;exact AK (hw w hw1).1 (hw w hw1).2
  ·have:=hnd;unfold List.Nodup at this ⊢;rw [L0];exact this.imp_of_mem fun {a b} ha hb z e=>z (xp (hw a ha).1 (hw b hb).1 e)
abbrev HW:List PyData:=[.str "", .str "abcdefghi", .str "Ab", .str "a b", .none,.int 5,.bool true,.tuple [.str "a"]]
abbrev ends:List PyData:=[.str "", .str "Ab", .int (10 ^ 30),.int (-(10 ^ 30)),.bool true,.none,.tuple [.str "A"],.tuple [.str "a", .str "b"],.list [.str "a"]]
theorem A7:∀ d∈HW,mJ d 1=false:=by
 intro d h;simp only [JV,KI,LL] at h;rcases h with rfl | rfl | rfl | rfl | rfl | rfl | rfl | rfl <;> decide +kernel
theorem C6:∀ d∈ends,jU d=false:=by
 intro d h;simp only [JV,KI,LL] at h;rcases h with rfl | rfl | rfl | rfl | rfl | rfl | rfl | rfl | rfl <;> decide +kernel
theorem qk {a b c:PyData}:bR (.tuple [a,b,c])=(mJ a 1&&(mJ b 1&&jU c)):=rfl
theorem A6 {cs:List Int} {B:Nat} {pn:PyData} {Q:PR->List PyData->Prop} (hP:bI cs B pn) (hb:B < 2 ^ 58) (q:∀ (d:PyData) pn',bI cs (B+3) pn'->bR d=false->Q (.dat d) [pn']):WF qL [pn] Q:=by
 refine cJ rfl ?_;unfold wR;walk_at "d";intro w1 pn1 hP1 w10 w11;walk_at "n";walk_at "pp";obtain ⟨d1,hd1,ed1⟩:=atV (xs:=HW) w10 w11;refine uk rfl ed1 ?_;have n1:=A7 d1 hd1;clear ed1 hd1;walk_at "d";intro w2 pn2 hP2 w20 w21;walk_at "n";walk_at "pp";obtain ⟨d2,hd2,ed2⟩:=atV (xs:=ends) w20 w21;refine uk rfl ed2 ?_;have n2:=C6 d2 hd2;clear ed2 hd2;walk_at "pp";refine vD (cs:=cs) (m:=12) (i:=0) (hi:=rfl) hP2 (by omega) (by decide) (by decide) ?_;intro w3 pn3 hP3 w30 w31;walk_at "n";walk_at "pp";obtain ⟨d3,hd3,ed3⟩:=atV (xs:=([.tuple [d1,.str "b", .int 1],.tuple [.str "a", d1,.int 1],.tuple [.str "a", .str "b", d2],.tuple [.str "a", .str "b"],.tuple [.str "a", .str "b", .int 1,.int 1],.list [.str "a", .str "b", .int 1],.tuple [],.none,.int 7,.str "a b 1", .dict [],.list [.tuple [.str "a", .str "b", .int 1]]]:List PyData)) w30 w31;refine uk rfl ed3 ?_;clear ed3;walk_at "pp";refine q d3 pn3 (hP3.mono (by omega)) ?_;simp only [JV,KI,LL] at hd3;rcases hd3 with rfl | rfl | rfl | rfl | rfl | rfl | rfl | rfl | rfl | rfl | rfl | rfl
 ·rw [qk,n1,Bool.false_and]
 ·rw [qk,n1,Bool.false_and,Bool.and_false]
 ·rw [qk,n2,Bool.and_false,Bool.and_false]
 all_goals rfl
theorem gq {U:List Fc}:(kvs U).map (·.1)=U.map Fc.enc:=by unfold kvs;rw [Ls];rfl
theorem mD {ns U:List Fc} {i:Nat} {a:Fc} (hU:U.Nodup) (hM:∀ a,a∈U↔a∈ns.take i) (hz:U.length<=i) (ha:ns[i]?=some a):∃ V:List Fc,putD (kvs U) a.enc (.bool true)=kvs V/\V.Nodup/\(∀ b,b∈V↔b∈ns.take (i+1))/\V.length<=i+1:=by
 by_cases h:a∈U
 ·refine ⟨U,BP h,hU,fun b=>?_,by omega⟩;rw [<- take_snoc ha,Kb,hM b];constructor
  ·exact .inl
  ·rintro (z | z)
   ·exact z
   ·have:b=a:=by simpa using z
    rw [this];exact (hM a).mp h
 ·refine ⟨U++[a],sr h,Kf.mpr ⟨hU,by simp,fun x hx y hy e=>?_⟩,fun b=>?_,by rw [Jr];show _+1<=_;omega⟩
  ·have:y=a:=by simpa using hy
   exact h (this▸e▸hx)
  ·rw [<- take_snoc ha,Kb,Kb,hM b]
theorem qa {ns L:List Fc} {Q:PR->List PyData->Prop} (hl:ns.length<=410) (hL:Srt L) (hm:∀ a,a∈L↔a∈ns) (q:Q (.frs (.list (L.map Fc.enc))) []):WF aL [.list (ns.map Fc.enc)] Q:=by
 refine cJ rfl ?_;unfold bg;walk_at "pp";refine (.inl (uW rfl (gU (fun i e=>∃ U:List Fc,U.Nodup/\(∀ a,a∈U↔a∈ns.take i)/\U.length<=i/\qe [some (.dat (.list (ns.map Fc.enc))),some (.own (.dict (kvs U))),none] e) ⟨[],.nil,fun a=>by simp,JH _,by walk_at "L"⟩ ?_ ?_)))
 ·rintro i d e hd ⟨U,hU,hM,hz,_⟩;walk_at "l";rw [JU] at hd;obtain ⟨a,ha,rfl⟩:=J7.mp hd;have hi:i < ns.length:=(Js.mp ha).1;walk_at "f";walk_at "pp";refine nc (v:=.bool true) (k:=a.enc) (kvs:=kvs U) rfl rfl (bF a) (by rw [Jt];show _ < 2 ^ 24;omega) ?_;obtain ⟨V,eV,h1,h2,h3⟩:=mD hU hM hz ha;rw [eV];exact ⟨V,h1,h2,h3,by walk_at "L"⟩
 ·rintro e ⟨U,hU,hM,hz,_⟩;walk_at "l";rw [Jt,KH] at hM;rw [Jt] at hz;walk_at "pp";refine qP (S:=fyS) (kvs:=kvs U) (ks:=U.map Fc.key) rfl (by rw [gq];exact g8 U) (by rw [Jt];omega) (g6 hU) ?_;intro r hr;rw [gq] at hr;rw [show r=L.map Fc.enc from hr.trans (qJ hU hL fun a=>(hm a).trans (hM a).symm)];walk_at "pp";exact q
theorem xU {ds:List PyData} {Q:PR->List PyData->Prop} (q:Q (.dat (.bool (ds.all bR))) []):WF bN [.list ds] Q:=by
 refine cJ rfl ?_;unfold cV;walk_at "pp";refine (.inl (uW rfl (dW (fun j ys ec=>ys=((ds.take j).map bR).map .bool/\ec=[]) ⟨rfl,rfl⟩ ?_ ?_)))
 ·rintro j d ys ec hd ⟨rfl,rfl⟩;refine ig ?_;walk_at "pp";refine ae (ds:=[d]) (is:=[]) rfl rfl (ft ⟨rfl,?_⟩);walk_at "pp";refine ⟨?_,rfl⟩;rw [<- take_snoc hd,Ko,Ko];rfl
 ·rintro ys ec ⟨rfl,rfl⟩;rw [KH];walk_at "n";walk_at "pp";refine w_all (bs:=ds.map bR) rfl ?_;rw [show (ds.map bR).all id=ds.all bR by rw [List.all_map];rfl];walk_at "pp";exact q
theorem xX {ns L:List Fc} {Q:PR->List PyData->Prop} (hs:∀ a∈ns,a.sm) (hl:ns.length<=410) (hL:Srt L) (hm:∀ a,a∈L↔a∈ns) (q:Q (.dat (if 400 < L.length then .int 3 else .tuple (L.map Fc.enc))) []):WF cQ [.list (ns.map Fc.enc)] Q:=by
 refine cJ rfl ?_;unfold iB;walk_at "pp";refine ae (ds:=[.list (ns.map Fc.enc)]) (is:=[]) rfl rfl (xU ⟨rfl,?_⟩);rw [show (ns.map Fc.enc).all bR=true by rw [List.all_map,Lf];exact fun a ha=>de (hs a ha)];walk_at "pp";refine ae (ds:=[.list (ns.map Fc.enc)]) (is:=[]) rfl rfl (qa hl hL hm ⟨rfl,?_⟩);walk_at "pp";by_cases c:400 < L.length
 ·rw [JB c] at q;refine lr (J6 (by rw [Jt];omega)) ?_;walk_at "pp";exact q
 ·rw [Jz c] at q;refine kj (J3 (by rw [Jt];omega)) ?_;walk_at "pp";exact q
theorem rL {ns L:List Fc} {Q:PR->List PyData->Prop} (hl:ns.length<=410) (hL:Srt L) (hm:∀ a,a∈L↔a∈ns) (q:Q (.frs (.list (L.map Fc.enc))) []):WF aL [.tuple (ns.map Fc.enc)] Q:=by
 refine cJ rfl ?_;unfold bg;walk_at "pp";refine (.inr ⟨_,rfl,(gU (fun i e=>∃ U:List Fc,U.Nodup/\(∀ a,a∈U↔a∈ns.take i)/\U.length<=i/\qe [some (.dat (.tuple (ns.map Fc.enc))),some (.own (.dict (kvs U))),none] e) ⟨[],.nil,fun a=>by simp,JH _,by walk_at "L"⟩ ?_ ?_)⟩)
 ·rintro i d e hd ⟨U,hU,hM,hz,_⟩;walk_at "l";rw [JU] at hd;obtain ⟨a,ha,rfl⟩:=J7.mp hd;have hi:i < ns.length:=(Js.mp ha).1;walk_at "f";walk_at "pp";refine nc (v:=.bool true) (k:=a.enc) (kvs:=kvs U) rfl rfl (bF a) (by rw [Jt];show _ < 2 ^ 24;omega) ?_;obtain ⟨V,eV,h1,h2,h3⟩:=mD hU hM hz ha;rw [eV];exact ⟨V,h1,h2,h3,by walk_at "L"⟩
 ·rintro e ⟨U,hU,hM,hz,_⟩;walk_at "l";rw [Jt,KH] at hM;rw [Jt] at hz;walk_at "pp";refine qP (S:=fyS) (kvs:=kvs U) (ks:=U.map Fc.key) rfl (by rw [gq];exact g8 U) (by rw [Jt];omega) (g6 hU) ?_;intro r hr;rw [gq] at hr;rw [show r=L.map Fc.enc from hr.trans (qJ hU hL fun a=>(hm a).trans (hM a).symm)];walk_at "pp";exact q
theorem y8 {ds:List PyData} {Q:PR->List PyData->Prop} (q:Q (.dat (.bool (ds.all bR))) []):WF bN [.tuple ds] Q:=by
 refine cJ rfl ?_;unfold cV;walk_at "pp";refine (.inr ⟨_,rfl,(dW (fun j ys ec=>ys=((ds.take j).map bR).map .bool/\ec=[]) ⟨rfl,rfl⟩ ?_ ?_)⟩)
 ·rintro j d ys ec hd ⟨rfl,rfl⟩;refine ig ?_;walk_at "pp";refine ae (ds:=[d]) (is:=[]) rfl rfl (ft ⟨rfl,?_⟩);walk_at "pp";refine ⟨?_,rfl⟩;rw [<- take_snoc hd,Ko,Ko];rfl
 ·rintro ys ec ⟨rfl,rfl⟩;rw [KH];walk_at "n";walk_at "pp";refine w_all (bs:=ds.map bR) rfl ?_;rw [show (ds.map bR).all id=ds.all bR by rw [List.all_map];rfl];walk_at "pp";exact q
theorem zw {ns L:List Fc} {Q:PR->List PyData->Prop} (hs:∀ a∈ns,a.sm) (hl:ns.length<=410) (hL:Srt L) (hm:∀ a,a∈L↔a∈ns) (q:Q (.dat (if 400 < L.length then .int 3 else .tuple (L.map Fc.enc))) []):WF cQ [.tuple (ns.map Fc.enc)] Q:=by
 refine cJ rfl ?_;unfold iB;walk_at "pp";refine ae (ds:=[.tuple (ns.map Fc.enc)]) (is:=[]) rfl rfl (y8 ⟨rfl,?_⟩);rw [show (ns.map Fc.enc).all bR=true by rw [List.all_map,Lf];exact fun a ha=>de (hs a ha)];walk_at "pp";refine ae (ds:=[.tuple (ns.map Fc.enc)]) (is:=[]) rfl rfl (rL hl hL hm ⟨rfl,?_⟩);walk_at "pp";by_cases c:400 < L.length
 ·rw [JB c] at q;refine lr (J6 (by rw [Jt];omega)) ?_;walk_at "pp";exact q
 ·rw [Jz c] at q;refine kj (J3 (by rw [Jt];omega)) ?_;walk_at "pp";exact q
theorem cc {d:PyData} {Q:PR->List PyData->Prop} (q:Q (.dat (if bR d=true then .none else .int 1)) []):WF aK [d] Q:=by
 refine cJ rfl ?_;unfold cb;walk_at "pp";refine ae (ds:=[d]) (is:=[]) rfl rfl (ft ⟨rfl,?_⟩);cases h:bR d with
 | true =>
  rw [h,JB rfl] at q;walk_at "pp";exact q
 | false =>
  rw [h,Jz JL] at q;walk_at "pp";exact q
theorem w6 {L:List Fc} {f:Fc} (h:f∈L):tG (L.map Fc.enc) f.enc=true:=LJ.mpr ⟨f.enc,Kh.mpr ⟨f,h,rfl⟩,cT f⟩
theorem Dt {L:List Fc} {f:Fc} (h:f ∉ L):tG (L.map Fc.enc) f.enc=false:=by
 unfold tG;rw [List.any_eq_false];intro x hx e;obtain ⟨g,hg,rfl⟩:=Kh.mp hx;exact h (d8 e▸hg)
theorem gE (L:List Fc):dq (L.map Fc.enc)=true:=jq.mpr fun d hd=>by
 obtain ⟨g,_,rfl⟩:=Kh.mp hd;exact gh g
theorem jr (f:Fc):o3 f.enc=true:=by
 unfold o3;rw [gh,Lb];exact J6 (Ka (d7 f) (by decide))
theorem Dr {e:En} {x y:AV} {xs:List PyData} {z:PyData} {Q:RV->En->Prop} (h1:aE e [x,y]=some [.tuple xs,.tuple [z]]) (h2:xs.length+1<=sizeLine) (q:Q (.dat (.tuple (xs++[z]))) e):WPr yy [x,y] e Q:=by
 cases xs with
 | nil=>exact ⟨_,.dat (.tuple [z]),h1,rfl,q⟩
 | cons a r=>exact ⟨_,.dat (.tuple ((a :: r)++[z])),h1,by show (if _ then _ else _)=_;exact JB h2,q⟩
theorem zz {L:List Fc} {d:PyData} {Q:PR->List PyData->Prop} (h:bR d=false) (q:Q (.dat (.int 1)) []):WF bZ [.tuple (L.map Fc.enc),d] Q:=by
 refine cJ rfl ?_;unfold eO;walk_at "pp";refine ae (ds:=[d]) (is:=[]) rfl rfl (cc ⟨rfl,?_⟩);rw [h,Jz JL];walk_at "pp";exact q
theorem sC {L:List Fc} {f:Fc} {Q:PR->List PyData->Prop} (hf:f.sm) (h:f∈L) (q:Q (.dat (.int 2)) []):WF bZ [.tuple (L.map Fc.enc),f.enc] Q:=by
 refine cJ rfl ?_;unfold eO;walk_at "pp";refine ae (ds:=[f.enc]) (is:=[]) rfl rfl (cc ⟨rfl,?_⟩);rw [de hf,JB rfl];walk_at "pp";refine zO rfl (jr f) (gE L) (w6 h) ?_;walk_at "pp";exact q
theorem fo {L M:List Fc} {f:Fc} {Q:PR->List PyData->Prop} (hL:∀ a∈L,a.sm) (hf:f.sm) (h:f ∉ L) (hl:L.length<=400) (hM:Srt M) (hm:∀ a,a∈M↔a∈L\/a=f) (q:Q (.dat (if 400 < M.length then .int 3 else .tuple (M.map Fc.enc))) []):WF bZ [.tuple (L.map Fc.enc),f.enc] Q:=by
 refine cJ rfl ?_;unfold eO;walk_at "pp";refine ae (ds:=[f.enc]) (is:=[]) rfl rfl (cc ⟨rfl,?_⟩);rw [de hf,JB rfl];walk_at "pp";refine zO rfl (jr f) (gE L) (Dt h) ?_;walk_at "pp";refine Dr rfl (by rw [Jt];show _<=2 ^ 24;omega) ?_;walk_at "pp";refine ae (ds:=[.tuple ((L++[f]).map Fc.enc)]) (is:=[]) (by rw [Ko];rfl) rfl (zw (L:=M) (fun a ha=>?_) (by rw [Jr];show _+1<=_;omega) hM (fun a=>by rw [hm,Kb,JD]) ⟨rfl,?_⟩)
 ·rcases Kb.mp ha with ha | ha
  ·exact hL a ha
  ·rw [JD.mp ha];exact hf
 walk_at "pp";exact q
theorem vZ {e:En} {x y:AV} {z:PyData} {ds:List PyData} {b:Bool} {Q:RV->En->Prop} (h1:aE e [x,y]=some [z,.tuple ds]) (h2:o3 z=true) (h3:dq ds=true) (h4:tG ds z=b) (q:Q (.dat (.bool (!b))) e):WPr pW [x,y] e Q:=by
 refine ⟨_,.dat (.bool (!b)),h1,?_,q⟩;subst h4;cases z with
 | dict kvs=>simp [o3,noD] at h2
 | _=>(show (if o3 _=true/\dq ds=true then some (PR.dat (.bool (ngB true (tG ds _)))) else none)=_);rw [JB ⟨h2,h3⟩];rfl
theorem uZ {L:List Fc} {d:PyData} {Q:PR->List PyData->Prop} (h:bR d=false) (q:Q (.dat (.int 1)) []):WF aV [.tuple (L.map Fc.enc),d] Q:=by
 refine cJ rfl ?_;unfold bM;walk_at "pp";refine ae (ds:=[d]) (is:=[]) rfl rfl (cc ⟨rfl,?_⟩);rw [h,Jz JL];walk_at "pp";exact q
theorem sM {L:List Fc} {f:Fc} {Q:PR->List PyData->Prop} (hf:f.sm) (h:f ∉ L) (q:Q (.dat (.int 4)) []):WF aV [.tuple (L.map Fc.enc),f.enc] Q:=by
 refine cJ rfl ?_;unfold bM;walk_at "pp";refine ae (ds:=[f.enc]) (is:=[]) rfl rfl (cc ⟨rfl,?_⟩);rw [de hf,JB rfl];walk_at "pp";refine vZ rfl (jr f) (gE L) (Dt h) ?_;walk_at "pp";exact q
theorem rp (f:Fc):fP f.enc=true:=lZ (gh f) (Ka (d7 f) (by decide))
noncomputable def rest (L:List Fc) (f:Fc):List Fc:=L.filter fun g=>!PyData.eqv g.enc f.enc
theorem c6 {L:List Fc} {f a:Fc}:a∈rest L f↔a∈L/\a≠f:=by
 unfold rest;rw [Md];refine and_congr Iff.rfl ⟨fun h e=>?_,fun h=>?_⟩
 ·rw [e,cT] at h;cases h
 ·cases q:PyData.eqv a.enc f.enc with
  | true=>exact absurd (d8 q) h
  | false=>rfl
theorem gR {L:List Fc} {f:Fc} {Q:PR->List PyData->Prop} (hf:f.sm) (h:f∈L) (q:Q (.dat (.tuple ((rest L f).map Fc.enc))) []):WF aV [.tuple (L.map Fc.enc),f.enc] Q:=by
 refine cJ rfl ?_;unfold bM;walk_at "pp";refine ae (ds:=[f.enc]) (is:=[]) rfl rfl (cc ⟨rfl,?_⟩);rw [de hf,JB rfl];walk_at "pp";refine vZ rfl (jr f) (gE L) (w6 h) ?_;walk_at "pp";refine dW (fun j ys ec=>ys=(rest (L.take j) f).map Fc.enc/\ec=[.dat f.enc]) ⟨rfl,rfl⟩ ?_ ?_
 ·rintro j d ys ec hd ⟨rfl,rfl⟩;rw [JU] at hd;obtain ⟨g,hg,rfl⟩:=J7.mp hd;have e:rest (L.take (j+1)) f=rest (L.take j) f++rest [g] f:=by
   unfold rest;rw [<- L2.take_snoc hg,List.filter_append]
  refine ig ?_;walk_at "ps";refine GN rfl (rp g) (rp f) ?_;walk_at "pp";refine j8 (fun c=>?_) (fun c=>?_)
  ·walk_at "pp";refine ⟨?_,rfl⟩;rw [e,Ko,show rest [g] f=[g] by unfold rest;rw [List.filter_cons,JB c];rfl];rfl
  ·refine ⟨?_,rfl⟩;rw [e,show rest [g] f=[] by unfold rest;rw [List.filter_cons,Jz (by rw [c];exact JL)];rfl,Kj];exact Kj _
 ·rintro ys ec ⟨rfl,rfl⟩;rw [Jt,KH];walk_at "n";walk_at "pp";exact q
noncomputable def told (v:PyData):PyData:=match v with
 | .int 1=>.list [.str "refused", .list [.str "fact"],.bool true]
 | .int 2=>.list [.str "refused", .list [.str "twice"],.bool true]
 | .int 3=>.list [.str "refused", .list [.str "web"],.bool true]
 | .int 4=>.list [.str "refused", .list [.str "missing"],.bool true]
 | v=>.list [.str "web", v]
theorem cS {b:Bool} {w d v:PyData} {Q:PR->List PyData->Prop} (hv:v=.int 1\/v=.int 2\/v=.int 3\/v=.int 4\/∃ ds,v=.tuple ds) (h1:b=true->∀ Q':PR->List PyData->Prop,Q' (.dat v) []->WF bZ [w,d] Q') (h2:b=false->∀ Q':PR->List PyData->Prop,Q' (.dat v) []->WF aV [w,d] Q') (q:Q (.dat (told v)) []):WF gK [.bool b,w,d] Q:=by
 refine cJ rfl ?_;unfold qi;with_reducible refine ph ?_
 walk_at "pz";with_reducible refine ph ?_
 with_reducible refine tU fun N eN=>?_
 have fin:N ([.dat (.bool b),.dat w,.dat d,.dat (.list []),.un,.dat v]:En):=by
  rw [eN];clear eN N h1 h2;rcases hv with rfl | rfl | rfl | rfl | ⟨ds,rfl⟩ <;> (walk_at "pp"; exact q)
 clear eN;cases b with
 | true =>
  walk_at "pp";refine ae (ds:=[w,d]) (is:=[]) rfl rfl (h1 rfl _ ⟨rfl,?_⟩);exact ⟨_,rfl,rfl,fin⟩
 | false =>
  walk_at "pp";refine ae (ds:=[w,d]) (is:=[]) rfl rfl (h2 rfl _ ⟨rfl,?_⟩);exact ⟨_,rfl,rfl,fin⟩
local macro_rules | `(tactic| walk_at "py1")=>`(tactic| ((fail_if_success (with_reducible refine Ey ?_));walk_at "p"))
local macro_rules | `(tactic| walk_at "py")=>`(tactic| repeat walk_at "py1")
local macro_rules | `(tactic| walk_at "pt1")=>`(tactic| ((fail_if_success (with_reducible refine GU ?_));walk_at "p"))
local macro_rules | `(tactic| walk_at "pt")=>`(tactic| repeat walk_at "pt1")
local macro_rules | `(tactic| walk_at "pw1")=>`(tactic| ((fail_if_success (with_reducible refine AL ?_));walk_at "p"))
local macro_rules | `(tactic| walk_at "pw")=>`(tactic| repeat walk_at "pw1")
noncomputable def Nd.kd:Nd->Int | .num _=>0 | .eh _=>1 | .aU _=>2
theorem jo {a:Nd} {Q:PR->List PyData->Prop} (q:Q (.dat (.int a.kd)) []):WF fj [a.enc] Q:=by
 refine cJ rfl ?_;unfold rB;cases a <;> (unfold Nd.enc;walk_at "pp"; exact q)
theorem lt_str {x y:Str}:(if x=y then false else decide (x.cps.toList < y.cps.toList))=decide (x.cps.toList < y.cps.toList):=by
 split
 ·rename_i h;rw [h,J3 (List.lt_irrefl _)]
 ·rfl
theorem Fl {e:En} {x y:AV} {d d':PyData} {z:Bool} {Q:RV->En->Prop} (h1:aE e [x,y]=some [d,d']) (h2:DY d d'=some (.dat (.bool z))) (q:Q (.dat (.bool z)) e):WPr xu [x,y] e Q:=⟨_,.dat (.bool z),h1,h2,q⟩
theorem Ey {avs:List AV} {e:En} {Q:RV->En->Prop} (h:WPr xu avs e Q):WPr xu avs e Q:=h
theorem yz {a b:Nd} (hk:a.kd=b.kd):DY a.enc b.enc=some (.dat (.bool (ltN a b))):=by
 cases a with
 | num n =>
  cases b with
  | num m =>
   have:decide (n < m)=ltN (.num n) (.num m):=by
    unfold ltN ltK;show decide (n < m)=(if n=m then decide ((Str.ofString "").cps.toList < (Str.ofString "").cps.toList) else decide (n < m));split
    ·rename_i h;rw [h,J3 (List.lt_irrefl _)];exact J3 (by omega)
    ·rfl
   rw [<- this];rfl
  | eh y=>cases hk
  | aU y=>cases hk
 | eh x =>
  cases b with
  | num m=>cases hk
  | eh y =>
   have:(if x=y then false else decide (x.cps.toList < y.cps.toList))=ltN (.eh x) (.eh y):=lt_str;rw [<- this];rfl
  | aU y=>cases hk
 | aU x =>
  cases b with
  | num m=>cases hk
  | eh y=>cases hk
  | aU y=>rfl
theorem p8 {a b:Fc} {Q:PR->List PyData->Prop} (q:Q (.dat (.bool (e7 a b))) []):WF gr [a.enc,b.enc] Q:=by
 have e0:e7 a b=if a.t=b.t then (if a.b=b.b then ltN a.n b.n else decide (a.b.cps.toList < b.b.cps.toList)) else decide (a.t.cps.toList < b.t.cps.toList):=rfl
 rw [e0] at q;have ev:PyData.eqv (.tuple [.str a.t,.str a.b]) (.tuple [.str b.t,.str b.b])=(decide (a.t=b.t)&&decide (a.b=b.b)):=by
  show (PyData.eqv (.str a.t) (.str b.t)&&(PyData.eqv (.str a.b) (.str b.b)&&true))=_;rw [sf,sf,Bool.and_true]
 refine cJ rfl ?_;unfold ka Fc.enc;walk_at "ps";refine GN (d:=.tuple [.str a.t,.str a.b]) (d':=.tuple [.str b.t,.str b.b]) rfl rfl rfl ?_;rw [ev];walk_at "pp";by_cases h1:a.t=b.t
 ·rw [JB h1] at q;by_cases h2:a.b=b.b
  ·rw [JB h2] at q;refine kj (by simp [h1,h2]) ?_;walk_at "pp";refine ae (ds:=[a.n.enc]) (is:=[]) rfl rfl (jo ⟨rfl,?_⟩);walk_at "pp";refine ae (ds:=[b.n.enc]) (is:=[]) rfl rfl (jo ⟨rfl,?_⟩);walk_at "pp";by_cases hk:a.n.kd=b.n.kd
   ·refine kj (by simp [PyData.eqv,hk]) ?_;walk_at "py";refine Fl (d:=a.n.enc) (d':=b.n.enc) rfl (yz hk) ?_;walk_at "pp";exact q
   ·refine lr (by simp [PyData.eqv,hk]) ?_;walk_at "pp";refine ae (ds:=[a.n.enc]) (is:=[]) rfl rfl (jo ⟨rfl,?_⟩);walk_at "pp";refine ae (ds:=[b.n.enc]) (is:=[]) rfl rfl (jo ⟨rfl,?_⟩);walk_at "pp";have e:ltN a.n b.n=decide (a.n.kd < b.n.kd):=by
     have h1:∀ a:Nd,a.key.1=a.kd:=fun a=>by cases a <;> rfl
     unfold ltN ltK;rw [h1,h1,Jz hk]
    rw [e] at q;exact q
  ·rw [Jz h2] at q;refine lr (by simp [h2]) ?_;walk_at "pp";show Q (.dat (.bool (if a.t=b.t then (if a.b=b.b then false else decide (a.b.cps.toList < b.b.cps.toList)) else decide (a.t.cps.toList < b.t.cps.toList)))) [];rw [JB h1,Jz h2];exact q
 ·rw [Jz h1] at q;refine lr (by simp [h1]) ?_;walk_at "pp";show Q (.dat (.bool (if a.t=b.t then (if a.b=b.b then false else decide (a.b.cps.toList < b.b.cps.toList)) else decide (a.t.cps.toList < b.t.cps.toList)))) [];rw [Jz h1];exact q
theorem getD_in {U:List Fc} {a:Fc} (h:a∈U):(L2.getD (kvs U) a.enc).isSome=true:=by
 unfold L2.getD;rw [Option.isSome_map,List.find?_isSome];exact ⟨(a.enc,.bool true),Kh.mpr ⟨a,h,rfl⟩,cT a⟩
theorem Gh {e:En} {x y:AV} {d:PyData} {m:List (PyData×PyData)} {Q:RV->En->Prop} (h1:aE e [x,y]=some [d,.dict m]) (h2:hk6 d=true) (h3:(L2.getD m d).isSome=true) (q:Q (.dat (.bool false)) e):WPr (tq true) [x,y] e Q:=by
 refine ⟨_,.dat (.bool false),h1,?_,q⟩;show (if hk6 d=true then some (PR.dat (.bool (if true=true then !(L2.getD m d).isSome else (L2.getD m d).isSome))) else none)=_;rw [JB h2,JB rfl,h3];rfl
theorem mL {U:List Fc} {a:Fc} (h:a ∉ U):L2.getD (kvs U) a.enc=none:=by
 unfold L2.getD;rw [Option.map_eq_none_iff,List.find?_eq_none];intro x hx e;obtain ⟨g,hg,rfl⟩:=Kh.mp hx;exact h (d8 e▸hg)
theorem nB {L U:List Fc} {Q:PR->List PyData->Prop} (hl:L.length<=410) (hL:Srt L) (hU:U.Nodup) (hLU:∀ a,a∈L↔a∈U) (q:Q (.dat (.bool true)) []):WF jF [.tuple (L.map Fc.enc),.dict (kvs U)] Q:=by
 have elen:L.length=U.length:=((K4 (a9 hL) hU).mpr hLU).length_eq;refine cJ rfl ?_;unfold nA;walk_at "pp";refine kj (by simp [PyData.eqv,elen]) ?_;walk_at "pp";refine ⟨⟨by rw [Jt];omega,by rw [Jt];omega⟩,?_⟩;refine gU (fun i e=>qe [some (.dat (.tuple (L.map Fc.enc))),some (.ro (.dict (kvs U))),none] e) (by walk_at "L") ?_ ?_
 ·rintro i d e hd _;walk_at "l";obtain ⟨rfl,hi⟩:=ju hd;walk_at "f";rw [Jt,Int.toNat_natCast] at hi;have g1:=Jq hi;have a1:atI (L.map Fc.enc) (i:Int)=some (L[i]).enc:=iu (by rw [JU,g1];rfl);have mU:L[i]∈U:=(hLU _).mp (L6 hi);have nb:isB (L[i]).n.enc=false:=by cases (L[i]).n <;> rfl
  walk_at "pp";refine qb rfl a1 ?_;walk_at "pp";refine qb rfl a1 ?_;walk_at "pp";refine Gh rfl (bF _) (getD_in mU) ?_;walk_at "pp";refine qb rfl a1 ?_;walk_at "pp";refine kj nb ?_;walk_at "pp";refine j8 (fun c1=>?_) (fun c1=>?_)
  ·have c1:(0:Int) < (i:Int):=Kq c1;have hi':i - 1 < L.length:=by omega
   have g0:=Jq hi';have a0:atI (L.map Fc.enc) ((i:Int) - 1)=some (L[i - 1]).enc:=by
    rw [show (i:Int) - 1=((i - 1:Nat):Int) by omega];exact iu (by rw [JU,g0];rfl)
   have hlt:e7 (L[i - 1]) (L[i])=true:=Kv.mp hL (i - 1) i hi' hi (by omega);walk_at "pp";refine qb rfl a0 ?_;walk_at "pp";refine qb rfl a1 ?_;walk_at "pp";refine ae (ds:=[(L[i - 1]).enc,(L[i]).enc]) (is:=[]) rfl rfl (p8 ⟨rfl,?_⟩);rw [hlt];walk_at "pp";walk_at "L"
  ·walk_at "pp";walk_at "L"
 ·rintro e _;walk_at "l";walk_at "pp";exact q
theorem nN (i j:Int):PyData.eqv (.int i) (.int j)=decide (i=j):=by
 simp only [PyData.eqv];by_cases h:i=j
 ·subst h;simp
 ·rw [J3 h];simpa using h
theorem kR {e:En} {x y:AV} {d:PyData} {m:List (PyData×PyData)} {b n:Bool} {Q:RV->En->Prop} (h1:aE e [x,y]=some [d,.dict m]) (h2:hk6 d=true) (h3:(L2.getD m d).isSome=b) (q:Q (.dat (.bool (if n=true then !b else b))) e):WPr (tq n) [x,y] e Q:=by
 subst h3;refine ⟨_,.dat (.bool (if n=true then !(L2.getD m d).isSome else (L2.getD m d).isSome)),h1,?_,q⟩;show (if hk6 d=true then some (PR.dat (.bool (if n=true then !(L2.getD m d).isSome else (L2.getD m d).isSome))) else none)=_;rw [JB h2]
theorem Iv {ip:Bool} {U:List Fc} {d:PyData} {Q:PR->List PyData->Prop} (q:Q (.dat (.str "fact")) []):WF iW [.bool ip,.dict (kvs U),d,.bool true] Q:=by
 refine cJ rfl ?_;unfold nS;walk_at "pp";exact q
theorem GU {n:Bool} {avs:List AV} {e:En} {Q:RV->En->Prop} (h:WPr (tq n) avs e Q):WPr (tq n) avs e Q:=h
theorem Gi {U:List Fc} {f:Fc} {s:Str} {Q:PR->List PyData->Prop} (h:(f∈U/\s = "twice")\/(f ∉ U/\U.length=400/\s = "web")\/(f ∉ U/\U.length≠400/\s = "")) (q:Q (.dat (.str s)) []):WF iW [.bool true,.dict (kvs U),f.enc,.bool false] Q:=by
 refine cJ rfl ?_;unfold nS;walk_at "pt";rcases h with ⟨h,rfl⟩ | ⟨h,hl,rfl⟩ | ⟨h,hl,rfl⟩
 ·refine kR rfl (bF f) (getD_in h) ?_;walk_at "pp";exact q
 ·refine kR rfl (bF f) (b:=false) (by rw [mL h];rfl) ?_;walk_at "pp";refine lr (show PyData.eqv (.int _) (.int 400)=true by rw [nN,Jt,hl];rfl) ?_;walk_at "pp";exact q
 ·refine kR rfl (bF f) (b:=false) (by rw [mL h];rfl) ?_;walk_at "pp";refine kj (show PyData.eqv (.int _) (.int 400)=false by rw [nN,Jt];exact J3 (by omega)) ?_;walk_at "pp";exact q
theorem HN {U:List Fc} {f:Fc} {s:Str} {Q:PR->List PyData->Prop} (h:(f∈U/\s = "")\/(f ∉ U/\s = "missing")) (q:Q (.dat (.str s)) []):WF iW [.bool false,.dict (kvs U),f.enc,.bool false] Q:=by
 refine cJ rfl ?_;unfold nS;walk_at "pt";rcases h with ⟨h,rfl⟩ | ⟨h,rfl⟩
 ·refine kR rfl (bF f) (getD_in h) ?_;walk_at "pp";exact q
 ·refine kR rfl (bF f) (b:=false) (by rw [mL h];rfl) ?_;walk_at "pp";exact q
noncomputable def trT:XS:=match fq with | .seq _ (.seq _ (.seq _ (.seq _ (.seq _ t))))=>t | s=>s
abbrev trM:List PM:=[.ino,.dat,.ino,.ino]
theorem fZ {L U:List Fc} {P:List PyData} {pn d v:PyData} {ip od:Bool} {s:Str} {Q:PR->List PyData->Prop} (hdue:∀ Q':PR->List PyData->Prop,Q' (.dat (.str s)) []->WF iW [.bool ip,.dict (kvs U),d,.bool od] Q') (hdone:∀ Q':PR->List PyData->Prop,Q' (.dat (told v)) []->WF gK [.bool ip,.tuple (L.map Fc.enc),d] Q')
  (hsv:(s = "fact" /\ v=.int 1)\/(s = "twice" /\ v=.int 2)\/(s = "web" /\ v=.int 3)\/(s = "missing" /\ v=.int 4)) (q:Q (.dat (.tuple (L.map Fc.enc))) [pn,.dict (kvs U),.list P]) :
  WS gds trT ([.ino pn,.dat (.tuple (L.map Fc.enc)),.ino (.dict (kvs U)),.ino (.list P),.dat (.bool ip),.dat (.bool od),.dat d,.un,.un,.un]:En) ⟨mO trM Q,ze trM Q,fun _=>False,fun _=>False⟩:=by
 unfold trT fq;dsimp only;walk_at "pp";refine ae (ds:=[.bool ip,.dict (kvs U),d,.bool od]) (is:=[]) rfl rfl (hdue _ ⟨rfl,?_⟩);walk_at "n";walk_at "pp";refine ae (ds:=[.bool ip,.tuple (L.map Fc.enc),d]) (is:=[]) rfl rfl (hdone _ ⟨rfl,?_⟩);walk_at "n";walk_at "ps";refine tX rfl (fV L) ?_;rcases hsv with ⟨rfl,rfl⟩ | ⟨rfl,rfl⟩ | ⟨rfl,rfl⟩ | ⟨rfl,rfl⟩ <;> (walk_at "pp"; exact q)
theorem wV {α β:Type} (f:α->β):∀ (U:List α) (j:Nat),(U.eraseIdx j).map f=(U.map f).eraseIdx j
 | [],j=>by simp
 | a :: U,0=>rfl
 | a :: U,j+1=>by simp [wV f U j]
theorem C2 {e:En} {i:Nat} {avs:List AV} {U:List Fc} {f:Fc} {b:Bool} {Q:RV->En->Prop} (h1:aC e i=some (.dict (kvs U))) (h3:c5 e avs=some [(b,f.enc)]) (hU:U.Nodup) (hf:f∈U) (q:∀ U':List Fc,U'.Nodup->(∀ a,a∈U'↔a∈U/\a≠f)->Q (.dat (.bool true)) (fH e i (.dict (kvs U')))):WMr uT i avs e Q:=by
 have ex:∃ j:Nat,(kvs U).findIdx? (fun kv=>PyData.eqv kv.1 f.enc)=some j:=by
  cases h:(kvs U).findIdx? (fun kv=>PyData.eqv kv.1 f.enc) with
  | some j=>exact ⟨j,rfl⟩
  | none =>
   have:=List.findIdx?_eq_none_iff.mp h (f.enc,.bool true) (Kh.mpr ⟨f,hf,rfl⟩);rw [cT] at this;cases this
 obtain ⟨j,hj⟩:=ex;obtain ⟨hl,hp,_⟩:=List.findIdx?_eq_some_iff_getElem.mp hj;have hlU:j < U.length:=by simpa using hl
 have ej:(kvs U)[j]=((U[j]).enc,PyData.bool true):=by simp
 rw [ej] at hp;have eU:U[j]=f:=d8 hp;refine ⟨_,_,.dict (kvs (U.eraseIdx j)),.bool true,h1,h3,?_,q (U.eraseIdx j) (hU.sublist (List.eraseIdx_sublist _ _)) fun a=>?_⟩
 ·show (if hk6 f.enc=true/\FC f.enc=true then (match (kvs U).findIdx? (fun kv=>PyData.eqv kv.1 f.enc) with | some j=>((kvs U)[j]?).map fun kv=>(PyData.dict ((kvs U).eraseIdx j),kv.2) | none=>none) else none)=_;rw [JB ⟨bF f,rfl⟩,hj];dsimp only;rw [Jq hl,ej];show some (PyData.dict ((kvs U).eraseIdx j),PyData.bool true)=_;rw [<- wV]
 ·rw [List.mem_eraseIdx_iff_getElem?];constructor
  ·rintro ⟨k,hk,e⟩;refine ⟨J5 e,fun z=>hk ?_⟩;subst z;obtain ⟨hk2,e⟩:=Js.mp e;have inj:=Kv.mp hU;rcases Nat.lt_trichotomy k j with z | z | z
   ·exact absurd (e.trans eU.symm) (inj k j hk2 hlU z)
   ·exact z
   ·exact absurd (eU.trans e.symm) (inj j k hlU hk2 z)
  ·rintro ⟨ha,hne⟩;obtain ⟨k,e⟩:=K7.mp ha;refine ⟨k,fun z=>hne ?_,e⟩;subst z;rw [Jq hlU] at e;exact (Km e).symm.trans eU
theorem AL {i:Nat} {avs:List AV} {e:En} {Q:RV->En->Prop} (h:WMr uT i avs e Q):WMr uT i avs e Q:=h
theorem jT {L:List Fc} {f:Fc} (h:Srt L):Srt (rest L f):=List.Pairwise.sublist List.filter_sublist h
theorem vN (L:List Fc):fP (.list [.str "web", .tuple (L.map Fc.enc)])=true:=by
 have h:=fV L;refine lZ ?_ (Ka (i9 (k:=4) fun d hd=>?_) (by decide))
 ·simp only [noD,dq,Bool.and_true,Lb];exact gE L
 ·simp only [JV,KI,LL] at hd;rcases hd with rfl | rfl
  ·simp [PyData.depth]
  ·exact iL fun d hd=>by
    obtain ⟨g,_,rfl⟩:=Kh.mp hd;exact d7 g
theorem vc {L U M:List Fc} {P:List PyData} {pn:PyData} {f:Fc} {Q:PR->List PyData->Prop} (hs:∀ a∈L,a.sm) (hf:f.sm) (hL:Srt L) (hU:U.Nodup) (hLU:∀ a,a∈L↔a∈U) (hl:L.length<=400) (hul:U.length≠400) (h:f ∉ U) (hM:Srt M) (hm:∀ a,a∈M↔a∈L\/a=f) (ml:M.length<=400) (q:Q (.dat (.tuple (M.map Fc.enc))) [pn,.dict (kvs (U++[f])),.list P]) :
  WS gds trT ([.ino pn,.dat (.tuple (L.map Fc.enc)),.ino (.dict (kvs U)),.ino (.list P),.dat (.bool true),.dat (.bool false),.dat f.enc,.un,.un,.un]:En) ⟨mO trM Q,ze trM Q,fun _=>False,fun _=>False⟩:=by
 have hfL:f ∉ L:=fun z=>h ((hLU f).mp z);have elen:L.length=U.length:=((K4 (a9 hL) hU).mpr hLU).length_eq;have eR:rest M f=L:=yg (jT hM) hL fun a=>by
  rw [c6,hm];constructor
  ·rintro ⟨z | z,n⟩
   ·exact z
   ·exact absurd z n
  ·exact fun z=>⟨.inl z,fun n=>hfL (n▸z)⟩
 have nU:(U++[f]).Nodup:=Kf.mpr ⟨hU,by simp,fun a ha b hb e=>h (JD.mp hb▸e▸ha)⟩;unfold trT fq;dsimp only;walk_at "pp";refine ae (ds:=[.bool true,.dict (kvs U),f.enc,.bool false]) (is:=[]) rfl rfl (Gi (.inr (.inr ⟨h,hul,rfl⟩)) ⟨rfl,?_⟩);walk_at "n";walk_at "pp";refine ae (ds:=[.bool true,.tuple (L.map Fc.enc),f.enc]) (is:=[]) rfl rfl (cS (v:=.tuple (M.map Fc.enc)) (.inr (.inr (.inr (.inr ⟨_,rfl⟩)))) (fun _ Q' q'=>fo hs hf hfL hl hM hm (by rw [Jz (by omega)];exact q')) (fun z=>by cases z) ⟨rfl,?_⟩);walk_at "n";walk_at "ps";refine tX rfl (fV L) ?_;walk_at "pp";refine nc (v:=.bool true) (k:=f.enc) (kvs:=kvs U) rfl rfl (bF f) (by rw [Jt];show _ < 2 ^ 24;omega) ?_;rw [sr h];walk_at "n";walk_at "pp";refine ae (ds:=[.tuple (M.map Fc.enc),.dict (kvs (U++[f]))]) (is:=[]) rfl rfl (nB (by omega) hM nU (fun a=>by rw [hm,Kb,hLU,JD]) ⟨rfl,?_⟩);walk_at "pp";refine ae (ds:=[.bool false,.tuple (M.map Fc.enc),f.enc]) (is:=[]) rfl rfl (cS (v:=.tuple (L.map Fc.enc)) (.inr (.inr (.inr (.inr ⟨_,rfl⟩)))) (fun z=>by cases z) (fun _ Q' q'=>gR hf ((hm f).mpr (.inr rfl)) (by rw [eR];exact q')) ⟨rfl,?_⟩);walk_at "ps";refine tX rfl (vN L) ?_;walk_at "pp";exact q
theorem ug {L U:List Fc} {P:List PyData} {pn:PyData} {f:Fc} {Q:PR->List PyData->Prop} (hs:∀ a∈L,a.sm) (hf:f.sm) (hL:Srt L) (hU:U.Nodup) (hLU:∀ a,a∈L↔a∈U) (hl:L.length<=400) (h:f∈U) (q:∀ U':List Fc,U'.Nodup->(∀ a,a∈rest L f↔a∈U')->Q (.dat (.tuple ((rest L f).map Fc.enc))) [pn,.dict (kvs U'),.list P]) :
  WS gds trT ([.ino pn,.dat (.tuple (L.map Fc.enc)),.ino (.dict (kvs U)),.ino (.list P),.dat (.bool false),.dat (.bool false),.dat f.enc,.un,.un,.un]:En) ⟨mO trM Q,ze trM Q,fun _=>False,fun _=>False⟩:=by
 have hfL:f∈L:=(hLU f).mpr h;have rl:(rest L f).length<=400:=Ka (List.length_filter_le ..) hl;have hm:∀ a,a∈L↔a∈rest L f\/a=f:=fun a=>by
  rw [c6];constructor
  ·intro z;by_cases e:a=f
   ·exact .inr e
   ·exact .inl ⟨z,e⟩
  ·rintro (z | rfl)
   ·exact z.1
   ·exact hfL
 unfold trT fq;dsimp only;walk_at "pp";refine ae (ds:=[.bool false,.dict (kvs U),f.enc,.bool false]) (is:=[]) rfl rfl (HN (.inl ⟨h,rfl⟩) ⟨rfl,?_⟩);walk_at "n";walk_at "pp";refine ae (ds:=[.bool false,.tuple (L.map Fc.enc),f.enc]) (is:=[]) rfl rfl (cS (v:=.tuple ((rest L f).map Fc.enc)) (.inr (.inr (.inr (.inr ⟨_,rfl⟩)))) (fun z=>by cases z) (fun _ Q' q'=>gR hf hfL q') ⟨rfl,?_⟩);walk_at "n";walk_at "ps";refine tX rfl (fV L) ?_;walk_at "pw";refine C2 rfl rfl hU h fun U' nU' mU'=>?_;have hRU:∀ a,a∈rest L f↔a∈U':=fun a=>by rw [c6,mU',hLU]
 walk_at "n";walk_at "pp";refine ae (ds:=[.tuple ((rest L f).map Fc.enc),.dict (kvs U')]) (is:=[]) rfl rfl (nB (by omega) (jT hL) nU' hRU ⟨rfl,?_⟩);walk_at "pp";refine ae (ds:=[.bool true,.tuple ((rest L f).map Fc.enc),f.enc]) (is:=[]) rfl rfl (cS (v:=.tuple (L.map Fc.enc)) (.inr (.inr (.inr (.inr ⟨_,rfl⟩)))) (fun _ Q' q'=>fo (fun a ha=>hs a (c6.mp ha).1) hf (fun z=>(c6.mp z).2 rfl) rl hL hm (by rw [Jz (by omega)];exact q')) (fun z=>by cases z) ⟨rfl,?_⟩);walk_at "ps";refine tX rfl (vN L) ?_;walk_at "pp";exact q U' nU' hRU
theorem j4 (a:Fc):∀ {L:List Fc},Srt L->L.filter (fun b=>e7 b a)++L.filter (fun b=>!e7 b a)=L
 | [],_=>rfl
 | x :: r,h=>by
  obtain ⟨h1,h2⟩:=KQ.mp h;by_cases hx:e7 x a=true
  ·rw [List.filter_cons_of_pos (p:=fun b=>e7 b a) hx,List.filter_cons_of_neg (by simp [hx]),L7,j4 a h2]
  ·have hx:e7 x a=false:=by simpa using hx
   have hr:r.filter (fun b=>e7 b a)=[]:=by
    rw [List.filter_eq_nil_iff];intro y hy hya;rw [wZ (h1 y hy) hya] at hx;cases hx
   have hq:r.filter (fun b=>!e7 b a)=r:=by
    have:=j4 a h2;rw [hr] at this;exact this
   rw [List.filter_cons_of_neg (by simp [hx]),List.filter_cons_of_pos (by simp [hx]),hr,hq];rfl
theorem xn {F G:List Fc} {a:Fc} (h:Srt (F++G)) (h1:∀ f∈F,e7 f a=true) (h2:∀ g∈G,e7 a g=true):Srt (F++a :: G):=by
 obtain ⟨p1,p2,p3⟩:=JZ.mp h;refine JZ.mpr ⟨p1,KQ.mpr ⟨h2,p2⟩,fun f hf g hg=>?_⟩;rcases JV.mp hg with rfl | hg
 ·exact h1 f hf
 ·exact p3 f hf g hg
theorem rM:∀ gs:List Fc,∃ L:List Fc,Srt L/\∀ a,a∈L↔a∈gs
 | []=>⟨[],.nil,fun _=>Iff.rfl⟩
 | a :: gs=>by
  obtain ⟨L,hL,hm⟩:=rM gs;by_cases h:a∈L
  ·exact ⟨L,hL,fun b=>by
    rw [JV,<-hm b]
    exact ⟨.inr,fun z=>z.elim (fun e=>e▸h) id⟩⟩
  ·have eL:=j4 a hL;have h1:∀ f∈L.filter (fun b=>e7 b a),e7 f a=true:=fun f hf=>(Md.mp hf).2;have h2:∀ g∈L.filter (fun b=>!e7 b a),e7 a g=true:=fun g hg=>by
    obtain ⟨z1,z2⟩:=Md.mp hg;rw [Lo] at z2;cases e:e7 a g with
    | true=>rfl
    | false=>exact absurd (xN e z2▸z1) h
   generalize L.filter (fun b=>e7 b a)=F at eL h1;generalize L.filter (fun b=>!e7 b a)=G at eL h2;subst eL;refine ⟨F++a :: G,xn hL h1 h2,fun b=>?_⟩;rw [JV,<-hm b,Kb,Kb,JV];exact ⟨fun z=>z.elim (fun z=>.inr (.inl z)) fun z=>z.elim .inl fun z=>.inr (.inr z),fun z=>z.elim (fun z=>.inr (.inl z)) fun z=>z.elim .inl fun z=>.inr (.inr z)⟩
theorem IW {ns:List Fc} (hs:∀ a∈ns,a.sm) (hl:ns.length<=400):∃ L:List Fc,Srt L/\(∀ a,a∈L↔a∈ns)/\L.length<=400:=by
 obtain ⟨L,hL,hm⟩:=rM ns;exact ⟨L,hL,hm,Ka ((a9 hL).length_le_of_subset fun a ha=>(hm a).mp ha) hl⟩
theorem y9 {cs:List Int} {B:Nat} {pn:PyData} {L U P:List Fc} {Q:PR->List PyData->Prop} (hP:bI cs B pn) (hb:B < 2 ^ 55) (hs:∀ a∈L,a.sm) (hL:Srt L) (hU:U.Nodup) (hLU:∀ a,a∈L↔a∈U) (hl:L.length<=400) (hp:∀ a∈P,a.sm) (p0:0 < P.length) (p1:P.length<=1000)
  (q:∀ (L' U' P':List Fc) pn',bI cs (B+70) pn'->(∀ a∈L',a.sm)->Srt L'->U'.Nodup->(∀ a,a∈L'↔a∈U')->L'.length<=400->(∀ a∈P',a.sm)->0 < P'.length->P'.length<=P.length+1->Q (.dat (.tuple (L'.map Fc.enc))) [pn',.dict (kvs U'),.list (P'.map Fc.enc)]):WF mh [pn,.tuple (L.map Fc.enc),.dict (kvs U),.list (P.map Fc.enc)] Q:=by
 have pl:((P.map Fc.enc).length:Int)=P.length:=by rw [Jt]
 refine cJ rfl ?_;unfold fq;walk_at "d";intro v1 pn1 hP1 _ _;walk_at "n";walk_at "ps";refine w_eq (d:=.int v1) (d':=.int 0) rfl rfl rfl ?_;generalize PyData.eqv (.int v1) (.int 0)=ip;walk_at "n";walk_at "pp";refine vD (cs:=cs) (m:=5) (i:=0) rfl hP1 (by omega) (by decide) (by decide) ?_;intro v2 pn2 hP2 _ _;walk_at "n";walk_at "ps";refine w_eq (d:=.int v2) (d':=.int 0) rfl rfl rfl ?_;generalize PyData.eqv (.int v2) (.int 0)=od;walk_at "n";walk_at "pp";refine vD (cs:=cs) (m:=((P.map Fc.enc).length:Int)) (i:=0) rfl hP2 (by omega) (by omega) (by omega) ?_;intro v3 pn3 hP3 v30 v31;walk_at "n";walk_at "pp";obtain ⟨d0,hd0,ed0⟩:=atV v30 v31;obtain ⟨f0,hf0,rfl⟩:=Kh.mp hd0;refine uk rfl ed0 ?_;clear ed0 hd0;walk_at "n";walk_at "pz";walk_at "n";with_reducible refine tU fun N eN=>?_
 have rest1:∀ (f:Fc) (pn':PyData),f.sm->bI cs (B+54) pn'->N ([.ino pn',.dat (.tuple (L.map Fc.enc)),.ino (.dict (kvs U)),.ino (.list (P.map Fc.enc)),.dat (.bool ip),.dat (.bool od),.dat f.enc,.un,.un,.un]:En):=by
  intro f pn' hf hP';rw [eN];clear eN N;cases od with
  | true =>
   with_reducible refine ph ?_
   walk_at "pz";refine ae (ds:=[pn']) (is:=[0]) rfl rfl (A6 hP' (by omega) fun d pn4 hP4 hd=>⟨rfl,?_⟩);walk_at "n";walk_at "pz";exact fZ (v:=.int 1) (fun Q' q'=>Iv q') (fun Q' q'=>cS (.inl rfl) (fun _ Q'' q''=>zz hd q'') (fun _ Q'' q''=>uZ hd q'') q') (.inl ⟨rfl,rfl⟩) (q L U P pn4 (hP4.mono (by omega)) hs hL hU hLU hl hp p0 (by omega))
  | false =>
   have eP:P.map Fc.enc++[f.enc]=(P++[f]).map Fc.enc:=by rw [Ko];rfl
   have hp2:∀ a∈P++[f],a.sm:=jS hp hf;have l2:(P++[f]).length=P.length+1:=by rw [Jr];rfl
   have fin:∀ (L' U':List Fc),(∀ a∈L',a.sm)->Srt L'->U'.Nodup->(∀ a,a∈L'↔a∈U')->L'.length<=400->Q (.dat (.tuple (L'.map Fc.enc))) [pn',.dict (kvs U'),.list (P.map Fc.enc++[f.enc])]:=fun L' U' a b c d e=>by
    rw [eP];exact q L' U' (P++[f]) pn' (hP'.mono (by omega)) a b c d e hp2 (by omega) (by omega)
   have same:=fin L U hs hL hU hLU hl;have elen:L.length=U.length:=((K4 (a9 hL) hU).mpr hLU).length_eq;with_reducible refine ph ?_
   walk_at "pz";refine E9 rfl (by rw [Jt];show _ < 2 ^ 24;omega) rfl ?_;by_cases hfU:f∈U
   ·cases ip with
    | true=>exact fZ (v:=.int 2) (fun Q' q'=>Gi (.inl ⟨hfU,rfl⟩) q') (fun Q' q'=>cS (.inr (.inl rfl)) (fun _ Q'' q''=>sC hf ((hLU f).mpr hfU) q'') (fun z=>by cases z) q') (.inr (.inl ⟨rfl,rfl⟩)) same
    | false=>exact ug hs hf hL hU hLU hl hfU fun U' n' m'=>fin _ U' (fun a ha=>hs a (c6.mp ha).1) (jT hL) n' m' (Ka (List.length_filter_le ..) hl)
   ·have hfL:f ∉ L:=fun z=>hfU ((hLU f).mp z);cases ip with
    | false=>exact fZ (v:=.int 4) (fun Q' q'=>HN (.inr ⟨hfU,rfl⟩) q') (fun Q' q'=>cS (.inr (.inr (.inr (.inl rfl)))) (fun z=>by cases z) (fun _ Q'' q''=>sM hf hfL q'') q') (.inr (.inr (.inr ⟨rfl,rfl⟩))) same
    | true =>
     obtain ⟨M,hM,hm0⟩:=rM (L++[f]);have hm:∀ a,a∈M↔a∈L\/a=f:=fun a=>by rw [hm0,Kb,JD]
     have nL:(L++[f]).Nodup:=Kf.mpr ⟨a9 hL,by simp,fun a ha b hb e=>hfL (JD.mp hb▸e▸ha)⟩;have mlen:M.length=L.length+1:=by
      rw [((K4 (a9 hM) nL).mpr hm0).length_eq,Jr];rfl
     by_cases h4:U.length=400
     ·exact fZ (v:=.int 3) (fun Q' q'=>Gi (.inr (.inl ⟨hfU,h4,rfl⟩)) q') (fun Q' q'=>cS (.inr (.inr (.inl rfl))) (fun _ Q'' q''=>fo hs hf hfL hl hM hm (by rw [JB (by omega)];exact q'')) (fun z=>by cases z) q') (.inr (.inr (.inl ⟨rfl,rfl⟩))) same
     ·exact vc hs hf hL hU hLU hl h4 hfU hM hm (by omega) (fin M (U++[f]) (fun a ha=>by
       rcases (hm a).mp ha with z | z
       ·exact hs a z
       ·rw [z];exact hf) hM (Kf.mpr ⟨hU,by simp,fun a ha b hb e=>hfU (JD.mp hb▸e▸ha)⟩) (fun a=>by rw [hm,Kb,hLU,JD]) (by omega))
 clear eN;walk_at "d";intro v4 pn4 hP4 v40 v41;walk_at "n";walk_at "pp";refine j8 (fun c=>?_) (fun c=>?_)
 ·walk_at "pp";refine ae (ds:=[pn4]) (is:=[0]) rfl rfl (uf hP4 (by omega) fun f pn5 hP5 hf=>⟨rfl,?_⟩);walk_at "n";walk_at "pp";exact rest1 f pn5 hf (hP5.mono (by omega))
 ·walk_at "pp";exact rest1 f0 pn4 (hp f0 hf0) (hP4.mono (by omega))
noncomputable def f00:Fc:=⟨"a", "b", .num 0⟩
theorem vd {ns:List Int} (hl:ns.length<=63):WF we [.list (ns.map .int)] fun pr outs=>pr=.dat (.bool true)/\outs=[]:=by
 refine cJ rfl ?_;unfold wM;walk_at "pp";refine ae rfl rfl (AD ⟨rfl,?_⟩);have hP:bI ns 0 (yo ns 0 0):=⟨0,0,rfl,by decide,by decide,by decide⟩;generalize yo ns 0 0=pn at hP;walk_at "n";walk_at "d";intro m pn1 hP1 m0 m1;walk_at "n";walk_at "pp";refine ⟨⟨by omega,by omega⟩,?_⟩;refine dW (fun i ys ec=>∃ (fs:List Fc) (pn':PyData),ys=fs.map Fc.enc/\fs.length=i/\(∀ a∈fs,a.sm)/\bI ns (1+50*i) pn'/\ec=[.ino pn']) ⟨[],pn1,rfl,rfl,(fun a h=>by cases h),hP1,rfl⟩ ?_ ?_
 ·rintro i d ys ec hd ⟨fs,pn',rfl,hfl,hs,hP',rfl⟩;obtain ⟨rfl,hi⟩:=ju hd;refine ig ?_;walk_at "pp";refine ae (ds:=[pn']) (is:=[1]) rfl rfl (uf hP' (by omega) fun f pn2 hP2 hf=>⟨rfl,?_⟩);exact ⟨_,rfl,fs++[f],pn2,by rw [Ko];rfl,by rw [Jr,hfl];rfl,jS hs hf,hP2.mono (by omega),rfl⟩
 rintro ys ec ⟨fs,pn2,rfl,hfl,hs,hP2,rfl⟩;rw [qG] at hfl hP2;replace hP2:bI ns 1100 pn2:=hP2.mono (by omega);walk_at "n";walk_at "pz";walk_at "n";with_reducible refine tU fun N eN=>?_
 have rest1:∀ (fs:List Fc) (pn':PyData),(∀ a∈fs,a.sm)->fs.length<=400->bI ns 1110 pn'->N ([.dat (.list (ns.map .int)),.own pn',.dat (.list (fs.map Fc.enc)),.un,.un,.un,.un,.un]:En):=by
  clear hs hfl hP2 fs;intro fs pn' hs hfl hP';rw [eN];clear eN N;obtain ⟨L,hL,hm,hll⟩:=IW hs hfl;walk_at "pp";refine uW rfl (gU (fun i e=>∃ U:List Fc,U.Nodup/\(∀ a,a∈U↔a∈fs.take i)/\U.length<=i/\qe [some (.dat (.list (ns.map .int))),some (.own pn'),some (.dat (.list (fs.map Fc.enc))),some (.own (.dict (kvs U))),none,none,none,none] e) ⟨[],.nil,fun a=>by simp,JH _,by walk_at "L"⟩ ?_ ?_)
  ·rintro i d e hd ⟨U,hU,hM,hz,_⟩;walk_at "l";rw [JU] at hd;obtain ⟨a,ha,rfl⟩:=J7.mp hd;have hi:i < fs.length:=(Js.mp ha).1;walk_at "f";walk_at "pp";refine nc (v:=.bool true) (k:=a.enc) (kvs:=kvs U) rfl rfl (bF a) (by rw [Jt];show _ < 2 ^ 24;omega) ?_;obtain ⟨V,eV,h1,h2,h3⟩:=mD hU hM hz ha;rw [eV];exact ⟨V,h1,h2,h3,by walk_at "L"⟩
  ·rintro e ⟨U,hU,hM,hz,_⟩;walk_at "l";rw [Jt,KH] at hM;walk_at "pp";refine ae (ds:=[.list (fs.map Fc.enc)]) (is:=[]) rfl rfl (xX hs (by omega) hL hm ⟨rfl,?_⟩);rw [Jz (by omega)];walk_at "pp";refine Cm (ys:=[f00.enc]) rfl (by rw [Jt];show _+1<=2 ^ 24;omega) ?_;rw [show fs.map Fc.enc++[f00.enc]=(fs++[f00]).map Fc.enc by rw [Ko];rfl];have h0:f00.sm:=⟨⟨by unfold Ltr;decide,by decide,by decide⟩,⟨by unfold Ltr;decide,by decide,by decide⟩,⟨by decide,by decide⟩⟩;have hs2:∀ a∈fs++[f00],a.sm:=jS hs h0;have l2:(fs++[f00]).length=fs.length+1:=by rw [Jr];rfl
   generalize fs++[f00]=P at hs2 l2 ⊢;walk_at "n";walk_at "d";intro t pn3 hP3 t0 t1;walk_at "n";walk_at "pp";refine ⟨⟨by omega,by omega⟩,?_⟩;refine gU (fun i e=>∃ (L U P:List Fc) (pn':PyData),bI ns (1200+70*i) pn'/\(∀ a∈L,a.sm)/\Srt L/\U.Nodup/\(∀ a,a∈L↔a∈U)/\L.length<=400/\(∀ a∈P,a.sm)/\0 < P.length/\P.length<=401+i/\qe [some (.dat (.list (ns.map .int))),some (.own pn'),none,some (.own (.dict (kvs U))),none,some (.dat (.tuple (L.map Fc.enc))),some (.own (.list (P.map Fc.enc))),none] e) ⟨L,U,P,pn3,hP3.mono (by omega),fun a ha=>hs a ((hm a).mp ha),hL,hU,fun a=>(hm a).trans (hM a).symm,hll,hs2,by omega,by omega,by walk_at "L"⟩ ?_ ?_
   ·rintro i d e hd ⟨L,U,P,pn',hP',sL,hL,hU,hLU,hll,sP,p0,p1,_⟩;walk_at "l";obtain ⟨rfl,hi⟩:=ju hd;walk_at "f";walk_at "pp";refine ae (ds:=[pn',.tuple (L.map Fc.enc),.dict (kvs U),.list (P.map Fc.enc)]) (is:=[1,3,6]) rfl rfl (y9 hP' (by omega) sL hL hU hLU hll sP p0 (by omega) fun L' U' P' pn4 hP4 a1 a2 a3 a4 a5 a6 a7 a8=>⟨rfl,?_⟩);walk_at "n";walk_at "pp";exact ⟨L',U',P',pn4,hP4.mono (by omega),a1,a2,a3,a4,a5,a6,a7,by omega,by walk_at "L"⟩
   ·rintro e ⟨L,U,P,pn',hP',b1,b2,b3,b4,b5,b6,b7,b8,_⟩;walk_at "l";walk_at "pp";exact ⟨rfl,rfl⟩
 clear eN;walk_at "d";intro v4 pn4 hP4 v40 v41;walk_at "n";walk_at "pp";refine j8 (fun c=>?_) (fun c=>?_)
 ·walk_at "pp";refine ae (ds:=[pn4]) (is:=[1]) rfl rfl (xM hP4 (by omega) fun gs pn5 hP5 g0 g1 hg _=>⟨rfl,?_⟩);walk_at "n";walk_at "pp";exact rest1 gs pn5 hg g1 (hP5.mono (by omega))
 ·walk_at "pp";exact rest1 fs pn4 hs (by omega) (hP4.mono (by omega))
end K09
end
namespace PySem.W.Fast
noncomputable def tw2672370613798148817:=()
noncomputable def tw622280630478373396:=()
noncomputable def tw15956539411892133929:=()
noncomputable def tw7874242975124175937:=()
noncomputable def tw267939447167871186:=()
noncomputable def tw16525848996753465498:=()
noncomputable def tw12980926054970517699:=()
noncomputable def tw9970516595114777539:=()
noncomputable def tw6683152001990057341:=()
noncomputable def tw4917941810758818559:=()
noncomputable def tw6775979760154236514:=()
noncomputable def tw4486057386994122912:=()
noncomputable def tw14437426836826830131:=()
noncomputable def tw6607149962072967210:=()
noncomputable def tw403335879991318685:=()
noncomputable def tw7449426383351234084:=()
noncomputable def tw13188399512721567627:=()
noncomputable def tw13927610561164471007:=()
noncomputable def tw3839003243407321158:=()
noncomputable def tw10944455797835067884:=()
noncomputable def tw8387671928385665323:=()
noncomputable def tw3098245748240758669:=()
noncomputable def tw16685758345756157571:=()
noncomputable def tw12717472499560250981:=()
noncomputable def tw2396810647390071139:=()
noncomputable def tw12257338373262012806:=()
noncomputable def tw11791714189553329774:=()
end PySem.W.Fast
open PySem PySem.W PyProof.Rows
set_option maxRecDepth 100000 in
set_option maxHeartbeats 0 in
theorem PySem.Challenge.cw_webshapes_k09_facts_put_in_and_taken_out_holds : PySem.Challenge.rw_webshapes_k09_facts_put_in_and_taken_out.Holds := by
  w_on; (refine holds_law L2.ws fun eh => ?_); k_head; (case hw => w_witness2)
  k_fill
  refine L2.vh (l := PySem.Challenge.rw_webshapes_k09_facts_put_in_and_taken_out) (n := 63) (k := 11) (x := "_law_script") (CX := L2.CX0) (sp := K09.qA) rfl (by decide) rfl ⟨rfl, by decide, by decide, rfl⟩ (fun w h Y => PySem.W.kIn_of Y) ?F ?S ?C
  case F =>
    intro w mg fa h KX G hmg;have TT : ∃ t : K09.Adr, (∀ (s : Shared) (u : Value), BindsTo s (t.f 28).2 ⟨[u], []⟩ [("_law_script", u)]) ∧ K09.Txt (L2.KOf KX) mg t := by
      dsimp only [L2.KOf];refine' K09.Bn KX G ?D ?z_ValueError ?z_abs ?z_all ?z_bool ?z_int ?z_isinstance ?z_len ?z_list ?z_range ?z_sorted ?z_str ?z_tuple ?g_GREATEST_NUMBER ?g_MOST_FACTS ?g_MOST_LETTERS ?m_NoFact ?e_NoFact ?cl_NoFact ?ga_NoFact ?gg_NoFact ?m_Twice ?e_Twice ?cl_Twice ?ga_Twice ?gg_Twice ?m_NoWeb ?e_NoWeb ?cl_NoWeb ?ga_NoWeb ?gg_NoWeb ?m_Missing ?e_Missing ?cl_Missing ?ga_Missing ?gg_Missing ?m_ShapeError ?e_ShapeError ?cl_ShapeError ?ga_ShapeError ?gg_ShapeError ?mr_NoFact_ShapeError ?mr_Twice_ShapeError ?mr_NoWeb_ShapeError ?mr_Missing_ShapeError ?mv_NoFact ?mv_Twice ?mv_NoWeb ?mv_Missing ?kb_NoFact_Twice ?kb_NoFact_NoWeb ?kb_NoFact_Missing ?kb_Twice_NoFact ?kb_Twice_NoWeb ?kb_Twice_Missing ?kb_NoWeb_NoFact ?kb_NoWeb_Twice ?kb_NoWeb_Missing ?kb_Missing_NoFact ?kb_Missing_Twice ?kb_Missing_NoWeb
      (case D => (iterate 29 refine L2.Gf KX G (by k_is) (by k_is) (by k_is) (by k_is) (by first | exact fun _ _ _ _ _ _ => L2.us1 fun _ => rfl | exact fun _ _ _ _ _ _ => L2.us2 fun _ _ => rfl | exact fun _ _ _ _ _ _ => L2.us3 fun _ _ _ => rfl | exact fun _ _ _ _ _ _ => L2.us4 fun _ _ _ _ => rfl) ?_); exact True.intro)
      (case z_ValueError => k_is)
      (case z_abs => k_is)
      (case z_all => k_is)
      (case z_bool => k_is)
      (case z_int => k_is)
      (case z_isinstance => k_is)
      (case z_len => k_is)
      (case z_list => k_is)
      (case z_range => k_is)
      (case z_sorted => k_is)
      (case z_str => k_is)
      (case z_tuple => k_is)
      (case g_GREATEST_NUMBER => k_is)
      (case g_MOST_FACTS => k_is)
      (case g_MOST_LETTERS => k_is)
      (case m_NoFact => k_is)
      (case e_NoFact => k_exc)
      (case cl_NoFact => k_is)
      (case ga_NoFact => k_is)
      (case gg_NoFact => k_is)
      (case m_Twice => k_is)
      (case e_Twice => k_exc)
      (case cl_Twice => k_is)
      (case ga_Twice => k_is)
      (case gg_Twice => k_is)
      (case m_NoWeb => k_is)
      (case e_NoWeb => k_exc)
      (case cl_NoWeb => k_is)
      (case ga_NoWeb => k_is)
      (case gg_NoWeb => k_is)
      (case m_Missing => k_is)
      (case e_Missing => k_exc)
      (case cl_Missing => k_is)
      (case ga_Missing => k_is)
      (case gg_Missing => k_is)
      (case m_ShapeError => k_is)
      (case e_ShapeError => k_exc)
      (case cl_ShapeError => k_is)
      (case ga_ShapeError => k_is)
      (case gg_ShapeError => k_is)
      (case mr_NoFact_ShapeError => k_is)
      (case mr_Twice_ShapeError => k_is)
      (case mr_NoWeb_ShapeError => k_is)
      (case mr_Missing_ShapeError => k_is)
      (case mv_NoFact => k_is)
      (case mv_Twice => k_is)
      (case mv_NoWeb => k_is)
      (case mv_Missing => k_is)
      (case kb_NoFact_Twice => k_is)
      (case kb_NoFact_NoWeb => k_is)
      (case kb_NoFact_Missing => k_is)
      (case kb_Twice_NoFact => k_is)
      (case kb_Twice_NoWeb => k_is)
      (case kb_Twice_Missing => k_is)
      (case kb_NoWeb_NoFact => k_is)
      (case kb_NoWeb_Twice => k_is)
      (case kb_NoWeb_Missing => k_is)
      (case kb_Missing_NoFact => k_is)
      (case kb_Missing_Twice => k_is)
      (case kb_Missing_NoWeb => k_is)
    obtain ⟨t, hb, T⟩ := TT;have e : some (Value.ref fa) = some (Value.ref (t.f 28).1) := hmg.symm.trans (T.d 28 rfl).m;have e' : fa = (t.f 28).1 := by injection e with e; injection e
    subst e';exact ⟨(t.f 28).2, hb, fun base _ _ => K09.Dg T⟩
  case S => exact fun K H a ns hl _ hS => L2.Dd rfl hl hS (by obtain ⟨pr, outs, h, rfl, rfl⟩ := K09.vd hl; exact h)
  case C => exact fun _ _ _ _ z => z

