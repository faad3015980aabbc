import PyProof.Rows.All
import Wide.All
import OpenK.AllK
import Wide.FinOn
import Lean
import PyProof.EqAt
import PyProof.EqKinds
import PyProof.TupleCall
import PyProof.ConsumeWalk
import PyProof.EqLayable
import PyProof.ReprRoads
import PyProof.StrWalks
import PyProof.SliceStr2
import PyProof.StrLawsIn
import PyProof.StrLawsRepr
import PyProof.SliceList
import PyProof.Rows.FStr
import PyProof.CallStr
import PyProof.Rows.SeqMore
import PyProof.ListStr
import PyProof.Claim2Refuses
import PyProof.Rows.SetFrom
import PyProof.Rows.StrMeet
import PyProof.WalksMore
import PyProof.StrCalls
import PyProof.ListMulRoad
import PyProof.MaxThree
import PyProof.Rows.SumAny
import PyProof.AutoSeq1
import PyProof.StrBlock2
import PyProof.ZipIter
import PyProof.Rows.ZipGen
import PyProof.Rows.CallKwBuiltin
import PyProof.Rows.SortRuns
import KE.KIsAll
import PyProof.DictTruth
import OpenK.KOwn
import PySem.Challenge.RW_webshapes_k07_no_webs
set_option Elab.async false
set_option linter.all false
set_option maxRecDepth 100000
set_option maxHeartbeats 4000000
section
open PySem PySem.Spec PyProof.Rows PySem.W
theorem Ia:type_of% @List.getElem?_eq_getElem:=@List.getElem?_eq_getElem
theorem Ib:type_of% @wpAny_bind:=@wpAny_bind
theorem Ic:type_of% @List.length_append:=@List.length_append
theorem Ie:type_of% @List.getElem?_eq_some_iff:=@List.getElem?_eq_some_iff
theorem Ig:type_of% @List.length_map:=@List.length_map
theorem Ih:type_of% @List.getElem?_set_ne:=@List.getElem?_set_ne
theorem Ii:type_of% @List.getElem?_append_right:=@List.getElem?_append_right
theorem Ij:type_of% @List.mem_append_right:=@List.mem_append_right
theorem Ik:type_of% @List.mem_cons_self:=@List.mem_cons_self
theorem Il:type_of% @wpAny_pure:=@wpAny_pure
theorem Im:type_of% @if_neg:=@if_neg
theorem Io:type_of% @List.mem_cons_of_mem:=@List.mem_cons_of_mem
theorem Ip:type_of% @if_pos:=@if_pos
theorem Iq:type_of% @List.mem_singleton:=@List.mem_singleton
theorem Ir:type_of% @List.getElem?_set_self:=@List.getElem?_set_self
theorem Iu:type_of% @List.getElem?_append_left:=@List.getElem?_append_left
theorem Iv:type_of% @Nat.le_refl:=@Nat.le_refl
theorem Iw:type_of% @Heap.get?_push_of_some:=@Heap.get?_push_of_some
theorem Iy:type_of% @List.size_toArray:=@List.size_toArray
theorem Iz:type_of% @List.mem_cons:=@List.mem_cons
theorem IC:type_of% @wpS_pure:=@wpS_pure
theorem ID:type_of% @List.pairwise_append:=@List.pairwise_append
theorem IE:type_of% @Bool.false_ne_true:=@Bool.false_ne_true
theorem IF:type_of% @Heap.lt_size:=@Heap.lt_size
theorem IG:type_of% @wpS_bind:=@wpS_bind
theorem IH:type_of% @List.length_cons:=@List.length_cons
theorem II:type_of% @Nat.lt_of_lt_of_le:=@Nat.lt_of_lt_of_le
theorem IJ:type_of% @List.getElem?_map:=@List.getElem?_map
theorem IK:type_of% @List.append_assoc:=@List.append_assoc
theorem IL:type_of% @List.mem_append_left:=@List.mem_append_left
theorem IM:type_of% @List.mem_of_getElem?:=@List.mem_of_getElem?
theorem IP:type_of% @decide_eq_true:=@decide_eq_true
theorem IQ:type_of% @PySem.W.mg_of:=@PySem.W.mg_of
theorem IU:type_of% @decide_eq_false:=@decide_eq_false
theorem IV:type_of% @List.eq_nil_of_length_eq_zero:=@List.eq_nil_of_length_eq_zero
theorem IW:type_of% @List.length_set:=@List.length_set
theorem IX:type_of% @Heap.get?_push_size:=@Heap.get?_push_size
theorem IY:type_of% @Nat.le_trans:=@Nat.le_trans
theorem IZ:type_of% @beq_iff_eq:=@beq_iff_eq
theorem Ja:type_of% @List.mem_append:=@List.mem_append
theorem Jb:type_of% @wpAny_mono:=@wpAny_mono
theorem Jc:type_of% @List.getD_eq_getElem?_getD:=@List.getD_eq_getElem?_getD
theorem Jd:type_of% @List.append_nil:=@List.append_nil
theorem Je:type_of% @Option.map_eq_some_iff:=@Option.map_eq_some_iff
theorem Jf:type_of% @Nat.ne_of_lt:=@Nat.ne_of_lt
theorem Jg:type_of% @List.nodup_append:=@List.nodup_append
theorem Jh:type_of% @List.length_take:=@List.length_take
theorem Ji:type_of% @Bool.and_eq_true:=@Bool.and_eq_true
theorem Jj:type_of% @List.map_cons:=@List.map_cons
theorem Jk:type_of% @Option.some.inj:=@Option.some.inj
theorem Jl:type_of% @List.map_append:=@List.map_append
theorem Jm:type_of% @of_decide_eq_true:=@of_decide_eq_true
theorem Jn:type_of% @List.mem_map:=@List.mem_map
theorem Jo:type_of% @Nat.lt_irrefl:=@Nat.lt_irrefl
theorem Jp:type_of% @Array.getElem?_eq_getElem:=@Array.getElem?_eq_getElem
theorem Jq:type_of% @PySem.W.mg_none_of:=@PySem.W.mg_none_of
theorem Jr:type_of% @beq_self_eq_true:=@beq_self_eq_true
theorem Js:type_of% @List.length_range:=@List.length_range
theorem Jt:type_of% @List.nodup_cons:=@List.nodup_cons
theorem Ju:type_of% @wpS_forRange:=@wpS_forRange
theorem Jv:type_of% @wpAny_truthy_bool:=@wpAny_truthy_bool
theorem Jw:type_of% @Nat.zero_le:=@Nat.zero_le
theorem Jx:type_of% @List.take_of_length_le:=@List.take_of_length_le
theorem Jy:type_of% @List.pairwise_iff_getElem:=@List.pairwise_iff_getElem
theorem Jz:type_of% @List.drop_eq_getElem_cons:=@List.drop_eq_getElem_cons
theorem JB:type_of% @List.pairwise_cons:=@List.pairwise_cons
theorem JD:type_of% @List.length_drop:=@List.length_drop
theorem JH:type_of% @List.set_set:=@List.set_set
theorem JJ:type_of% @wpAny_newObj_type:=@wpAny_newObj_type
theorem JK:type_of% @wpAny_rule:=@wpAny_rule
theorem JL:type_of% @List.length_nil:=@List.length_nil
theorem JM:type_of% @wpS_mono:=@wpS_mono
theorem JN:type_of% @Array.length_toList:=@Array.length_toList
theorem JQ:type_of% @sizeLine_eq:=@sizeLine_eq
theorem JU:type_of% @wpAny_execs_cons:=@wpAny_execs_cons
theorem JV:type_of% @List.take_length:=@List.take_length
theorem JX:type_of% @List.mem_reverse:=@List.mem_reverse
theorem JY:type_of% @List.mem_nil_iff:=@List.mem_nil_iff
theorem JZ:type_of% @List.pairwise_reverse:=@List.pairwise_reverse
theorem J0:type_of% @wpAny_dictEpoch:=@wpAny_dictEpoch
theorem J1:type_of% @PySem.W.kia_one:=@PySem.W.kia_one
theorem J2:type_of% @wpAny_holding:=@wpAny_holding
theorem J3:type_of% @List.filterMap_cons:=@List.filterMap_cons
theorem J4:type_of% @Nat.add_sub_cancel_left:=@Nat.add_sub_cancel_left
theorem J5:type_of% @List.all_eq_true:=@List.all_eq_true
theorem J6:type_of% @List.Perm.refl:=@List.Perm.refl
theorem J7:type_of% @of_decide_eq_false:=@of_decide_eq_false
theorem J8:type_of% @Heap.get?_update_other:=@Heap.get?_update_other
theorem J9:type_of% @PySem.W.kia_tup:=@PySem.W.kia_tup
theorem Ka:type_of% @List.mem_iff_getElem?:=@List.mem_iff_getElem?
theorem Kb:type_of% @List.Perm.append_left:=@List.Perm.append_left
theorem Kc:type_of% @wpAny_loadPart_at:=@wpAny_loadPart_at
theorem Kd:type_of% @Bool.not_eq_true':=@Bool.not_eq_true'
theorem Ke:type_of% @bind_congr:=@bind_congr
theorem Kf:type_of% @wpAny_call_entry:=@wpAny_call_entry
theorem Kg:type_of% @Nat.lt_succ_self:=@Nat.lt_succ_self
theorem Kh:type_of% @List.map_map:=@List.map_map
theorem Ki:type_of% @Classical.byContradiction:=@Classical.byContradiction
theorem Kj:type_of% @PySem.mem_of_lookup:=@PySem.mem_of_lookup
theorem Kk:type_of% @if_false:=@if_false
theorem Kl:type_of% @Bool.true_and:=@Bool.true_and
theorem Km:type_of% @wpAny_passesOwn:=@wpAny_passesOwn
theorem Ko:type_of% @wpAny_execs_nil:=@wpAny_execs_nil
theorem Kp:type_of% @wpS_modify:=@wpS_modify
theorem Kq:type_of% @wpAny_Call_Name_kw:=@wpAny_Call_Name_kw
theorem Kr:type_of% @Bool.false_eq_true:=@Bool.false_eq_true
theorem Ks:type_of% @wpAny_callSpecial?_slot:=@wpAny_callSpecial?_slot
theorem Kt:type_of% @List.reverse_perm:=@List.reverse_perm
theorem Ku:type_of% @List.length_singleton:=@List.length_singleton
theorem Kv:type_of% @Heap.get?_update_self:=@Heap.get?_update_self
theorem Kw:type_of% @wpAny_forIn_list:=@wpAny_forIn_list
theorem Kx:type_of% @wpAny_typeNameOfWhole_keyiter:=@wpAny_typeNameOfWhole_keyiter
theorem Kz:type_of% @F.slot_dict_keyiterator_next:=@F.slot_dict_keyiterator_next
theorem KA:type_of% @List.length_reverse:=@List.length_reverse
theorem KC:type_of% @Nat.sub_self:=@Nat.sub_self
theorem KD:type_of% @Array.getD_eq_getD_getElem?:=@Array.getD_eq_getD_getElem?
theorem KG:type_of% @List.drop_zero:=@List.drop_zero
theorem KH:type_of% @List.drop_left:=@List.drop_left
theorem KI:type_of% @Int.emod_lt_of_pos:=@Int.emod_lt_of_pos
theorem KJ:type_of% @Array.perm_iff_toList_perm:=@Array.perm_iff_toList_perm
theorem KL:type_of% @wpAny_dictEntries:=@wpAny_dictEntries
theorem KN:type_of% @if_true:=@if_true
theorem KO:type_of% @decide_eq_true_eq:=@decide_eq_true_eq
theorem KP:type_of% @List.pairwise_map:=@List.pairwise_map
theorem KQ:type_of% @wpAny_typeNameOf_keyiter:=@wpAny_typeNameOf_keyiter
theorem KR:type_of% @or_false:=@or_false
theorem KU:type_of% @List.lookup_cons:=@List.lookup_cons
theorem KW:type_of% @List.getElem?_cons_succ:=@List.getElem?_cons_succ
theorem KY:type_of% @List.cons_append:=@List.cons_append
theorem KZ:type_of% @List.any_eq_true:=@List.any_eq_true
theorem K0:type_of% @wpS_get:=@wpS_get
theorem K1:type_of% @Nat.le_of_lt:=@Nat.le_of_lt
theorem K2:type_of% @Option.map_some:=@Option.map_some
theorem K3:type_of% @Int.emod_nonneg:=@Int.emod_nonneg
theorem K4:type_of% @List.length_replicate:=@List.length_replicate
theorem K5:type_of% @List.getElem?_toArray:=@List.getElem?_toArray
theorem K6:type_of% @List.cons_lt_cons_iff:=@List.cons_lt_cons_iff
end
section
namespace L2
abbrev Fg:=PySem.W.Frag
set_option maxRecDepth 100000 in
set_option maxHeartbeats 0 in
theorem ws:PySem.W.OpenLaw.wellSaid PySem.Challenge.rw_webshapes_k07_no_webs=true:=by decide +kernel
end L2
end
section
namespace L2
open PySem PySem.Spec PyProof.Rows
abbrev Key:=Sum Int Str
def nI:Key->Value->Bool
 | .inl k,v=>Value.isInt k v
 | .inr x,v=>Value.isStrOf x v
def GF (w:World):Key->Int
 | .inl k=>hashInt k
 | .inr x=>hashStr w x
theorem ba:∀ {k:Key} {v:Value},nI k v=true->(∃ i t,k=Sum.inl i/\v=Value.int i t)\/(∃ x t,k=Sum.inr x/\v=Value.str x t)
 | .inl i,v,h=>by
  obtain ⟨t,e⟩:=Value.isInt_shape (k:=i) (v:=v) h;exact .inl ⟨i,t,rfl,e⟩
 | .inr x,v,h=>by
  obtain ⟨t,e⟩:=Value.isStrOf_shape (x:=x) (v:=v) h;exact .inr ⟨x,t,rfl,e⟩
theorem uo (i:Int) (t:Tok):nI (.inl i) (.int i t)=true:=by simp [nI,Value.isInt]
theorem rY (x:Str) (t:Tok):nI (.inr x) (.str x t)=true:=by simp [nI,Value.isStrOf]
theorem AM (a b:Int):decide ((Sum.inl a:Key)=Sum.inl b)=(a==b):=by
 by_cases e:a=b
 ·subst e;simp
 ·have h:¬(Sum.inl a:Key)=Sum.inl b:=fun q=>e (Sum.inl.inj q);rw [IU h];exact (beq_eq_false_iff_ne.mpr e).symm
theorem B5 (a b:Str):decide ((Sum.inr a:Key)=Sum.inr b)=decide (a=b):=by
 by_cases e:a=b
 ·subst e;simp
 ·have h:¬(Sum.inr a:Key)=Sum.inr b:=fun q=>e (Sum.inr.inj q);rw [IU h,IU e]
theorem CH (a:Int) (b:Str):decide ((Sum.inl a:Key)=Sum.inr b)=false:=IU (fun q=>nomatch q)
theorem BI (a:Str) (b:Int):decide ((Sum.inr a:Key)=Sum.inl b)=false:=IU (fun q=>nomatch q)
def bO (prog:Program) (w:World):PySem.KeyKind prog w Key where
 is:=nI
 hash:=GF w
 inj:=fun v a b ha hb=>by
  rcases ba ha with ⟨i,t,rfl,rfl⟩ | ⟨x,t,rfl,rfl⟩
  ·rcases ba hb with ⟨j,u,rfl,e⟩ | ⟨y,u,rfl,e⟩
   ·injection e with e1 _;rw [e1]
   ·exact nomatch e
  ·rcases ba hb with ⟨j,u,rfl,e⟩ | ⟨y,u,rfl,e⟩
   ·exact nomatch e
   ·injection e with e1 _;rw [e1]
 byValue:=fun k v h=>by
  rcases ba h with ⟨i,t,rfl,rfl⟩ | ⟨x,t,rfl,rfl⟩ <;> rfl
 pyHash:=fun hv h=>by
  rcases ba hv with ⟨i,t,rfl,rfl⟩ | ⟨x,t,rfl,rfl⟩
  ·exact wpAny_pyHash_int h
  ·exact wpAny_pyHash_str h
 eqBool:=fun hu hv h=>by
  rcases ba hu with ⟨i,t,rfl,rfl⟩ | ⟨x,t,rfl,rfl⟩
  ·rcases ba hv with ⟨j,u,rfl,rfl⟩ | ⟨y,u,rfl,rfl⟩
   ·rw [AM] at h;exact wpAny_eqBool_int h
   ·rw [CH] at h;exact SeqAt.EqAt.int_str i t y u _ _ _ _ h
  ·rcases ba hv with ⟨j,u,rfl,rfl⟩ | ⟨y,u,rfl,rfl⟩
   ·rw [BI] at h;exact SeqAt.EqAt.str_int x t j u _ _ _ _ h
   ·rw [B5] at h;exact wpAny_eqBool_str h
 «strs»:=fun k x t v h=>by
  rcases ba h with ⟨i,u,rfl,e⟩ | ⟨y,u,rfl,e⟩
  ·exact nomatch e
  ·injection e with e1 _;subst e1;cases v <;> rfl
theorem nJ (prog:Program) (w:World) (i:Int) (t:Tok):(bO prog w).is (.inl i) (.int i t)=true:=uo i t
theorem oj (prog:Program) (w:World) (x:Str) (t:Tok):(bO prog w).is (.inr x) (.str x t)=true:=rY x t
end L2
namespace L2
open PySem PySem.Spec PyProof.Rows
inductive V where
 | non | bl (b:Bool) | int (i:Int) | str (x:Str) | byt (b:Array UInt8) | flt (b:UInt64) | ref (a:Addr) | ty (n:String)
 deriving DecidableEq
def RelV:V->Value->Prop
 | .non,u=>u=Value.none
 | .bl b,u=>u=Value.bool b
 | .int i,u=>∃ t,u=Value.int i t
 | .str x,u=>∃ t,u=Value.str x t
 | .byt b,u=>∃ t,u=Value.bytes b t
 | .flt b,u=>∃ t,u=Value.float b t
 | .ref a,u=>u=Value.ref a
 | .ty n,u=>u=Value.type n
abbrev Vals:List V->List Value->Prop:=Paired RelV
theorem Vals.length {xs:List V} {us:List Value} (r:Vals xs us):xs.length=us.length:=Paired.length r
theorem Vals.get:∀ {xs:List V} {us:List Value} {i:Nat} {x:V},Vals xs us->xs[i]?=some x->∃ u,us[i]?=some u/\RelV x u
 | _,_,_,_,.nil,e=>by simp at e
 | _,_,0,_,.cons r _,e=>by simp at e;subst e;exact ⟨_,rfl,r⟩
 | _,_,i+1,x,.cons _ t,e=>by
  obtain ⟨u,h1,h2⟩:=Vals.get (i:=i) (x:=x) t (by simpa using e);exact ⟨u,by simpa using h1,h2⟩
theorem Vals.append:∀ {xs ys:List V} {us ws:List Value},Vals xs us->Vals ys ws->Vals (xs++ys) (us++ws)
 | _,_,_,_,.nil,s=>s
 | _,_,_,_,.cons r t,s=>.cons r (Vals.append t s)
theorem Vals.take:∀ {xs:List V} {us:List Value} (n:Nat),Vals xs us->Vals (xs.take n) (us.take n)
 | _,_,0,_=>.nil
 | _,_,_+1,.nil=>.nil
 | _,_,n+1,.cons r t=>.cons r (Vals.take n t)
theorem Vals.drop:∀ {xs:List V} {us:List Value} (n:Nat),Vals xs us->Vals (xs.drop n) (us.drop n)
 | _,_,0,r=>r
 | _,_,_+1,.nil=>.nil
 | _,_,n+1,.cons _ t=>Vals.drop n t
def DO:Option V->Option Value->Prop
 | some v,some u=>RelV v u
 | none,none=>True
 | _,_=>False
def KV {κ:Type}:List (κ×V)->List (κ×Value)->Prop:=Paired fun (p:κ×V) (q:κ×Value)=>p.1=q.1/\RelV p.2 q.2
def kV:Key->V
 | .inl i=>.int i
 | .inr x=>.str x
mutual
def cI (w:World):PyData->Int
 | .int i=>hashInt i
 | .str x=>hashStr w x
 | .tuple ds=>reduceHash (Builtin.Tuple.tupleHashOf (cX w ds))
 | _=>0
def cX (w:World):List PyData->List Int
 | []=>[]
 | d :: ds=>cI w d :: cX w ds
end
def zr (w:World) (x:PyData×V×V) (e:DictEntry):Prop:=e.hash=cI w x.1/\RelV x.2.1 e.key/\RelV x.2.2 e.val
inductive HO where
 /-- a list -/
 | lst (xs:List V)
 /-- a tuple (never changes) -/
 | tup (xs:List V)
 /-- a dict whose keys are ints and texts;one whose keys are tuples of ints and texts (the empty one is both) -/
 | dK (kvs:List (Key×V)) | dT (kvs:List (List Key×V))
 /-- a dict by any hashable data: its epoch;the keys as data and as values,what they hold -/
 | dD (ep:Nat) (xs:List (PyData×V×V))
 /-- a set of ints: its members,its size -/
 | set (S:Int->Bool) (n:Nat)
 /-- an instance of the class at C,its dict at dx,its attributes -/
 | ins (C dx:Addr) (fs:List (Str×V))
 /-- the dict of the instance at x -/
 | own (x:Addr)
 /-- the dict of an exception -/
 | xd (fs:List (Str×V))
 /-- a bound method,f of x -/
 | met (f x:Addr)
 /-- a range object lo,lo+1,.. below hi -/
 | rng (lo hi:Int)
 /-- a cb that is known to the object (the script;a dict while a loop walks it): read,never written while it is so -/
 | frz (o:Obj) (u:HO)
 /-- a code object's table -/
 | tbl (ps:Array Value)
 /-- any other cb,by what is true of its one object (a def of one's own: Hx a S n:=HO.ext fun h=>..) -/
 | ext (φ:Heap->Prop)
abbrev Hp:=Addr->Option HO
def upd (H:Hp) (a:Addr) (o:HO):Hp:=fun b=>if b=a then some o else H b
theorem aF {H:Hp} {a:Addr} {o:HO}:upd H a o a=some o:=by unfold upd;rw [Ip rfl]
theorem aA {H:Hp} {a b:Addr} {o:HO} (h:b≠a):upd H a o b=H b:=by unfold upd;rw [Im h]
theorem bf {H:Hp} {a b:Addr} {o:HO} (h:H a=some o) (h':H b=none):a≠b:=by
 intro e;subst e;rw [h] at h';cases h'
section
variable (P:Program) (w:World)
def bN (H:Hp) (h:Heap) (a:Addr):HO->Prop
 | .lst xs=>xs.length<=sizeLine/\∃ (its:List Value) (n:Nat),Vals xs its/\h.get? a=some { cls:=.type "list", data:=.seq its.toArray n }
 | .tup xs=>xs.length<=sizeLine/\∃ its:List Value,Vals xs its/\IsTup h a its.toArray
 | .dK kvs=>kvs.length<=sizeLine/\(a==sysModules)=false/\∃ vs,KV kvs vs/\h.DictOf (bO P w) a vs
 | .dT kvs=>kvs.length<=sizeLine/\(a==sysModules)=false/\∃ xs:List (List Key×Addr×Value),
   Paired (fun (p:List Key×V) (q:List Key×Addr×Value)=>p.1=q.1/\H q.2.1=some (.tup (p.1.map kV))/\RelV p.2 q.2.2) kvs xs /\
   ∃ o es ep,h.get? a=some o/\o.ExactDict/\o.data=.dict es ep/\es.toList=xs.map (entryOfKey (tupleKind (bO P w)))/\(xs.map (·.1)).Nodup
 | .dD ep xs=>xs.length<=sizeLine/\(a==sysModules)=false/\(xs.map (·.1)).Nodup/\∃ o es,h.get? a=some o/\o.ExactDict/\o.data=.dict es ep/\Paired (zr w) xs es.toList
 | .set S n=>h.SetOf (intKind P w) a S n
 | .ins C dx fs=>H dx=some (.own a)/\fs.length<=1000/\dx≠a/\h.get? a=some (PySem.W.instObj C dx) /\
   ∃ mA,h.Ns1 dx mA/\(∀ f,DO (fs.lookup f) (mA f))/\PySem.Within mA (fs.map (·.1))
 | .own _=>∃ o,h.get? a=some o
 | .xd fs=>∃ mA,h.Ns1 a mA/\∀ f,DO (fs.lookup f) (mA f)
 | .rng lo hi=>∃ t u v,h.get? a=some { cls:=.type "range", data:=.fields #[.int lo t,.int hi u,.int 1 v] }
 | .frz o u=>h.get? a=some o/\bN H h a u
 | .tbl ps=>h.get? a=some { cls:=.none,data:=.fields ps }
 | .met f x=>h.get? a=some (PySem.W.methodObj (.ref f) (.ref x))
 | .ext φ=>φ h/\(∃ o,h.get? a=some o)/\∀ h1 h2:Heap,φ h1->(∀ o,h1.get? a=some o->h2.get? a=some o)->φ h2
def HOk (H:Hp) (h:Heap):Prop:=∀ a o,H a=some o->bN P w H h a o
end
section
variable {P:Program} {w:World} {H H':Hp} {h h':Heap} {a:Addr} {o:HO}
theorem bN.lt (x:bN P w H h a o):a < h.objs.size:=by
 cases o with
 | lst xs=>obtain ⟨_,_,_,_,e⟩:=x;exact IF e
 | tup xs=>obtain ⟨_,_,_,p⟩:=x;exact p.lt
 | dK kvs=>obtain ⟨_,_,_,_,o,_,_,e,_⟩:=x;exact IF e
 | dT kvs=>obtain ⟨_,_,_,_,o,_,_,e,_⟩:=x;exact IF e
 | dD ep xs=>obtain ⟨_,_,_,o,_,e,_⟩:=x;exact IF e
 | set S n=>obtain ⟨o,_,_,_,e,_⟩:=x;exact IF e
 | ins C dx fs=>obtain ⟨_,_,_,e,_⟩:=x;exact IF e
 | own y=>obtain ⟨_,e⟩:=x;exact IF e
 | xd fs=>obtain ⟨_,⟨_,_,_,e,_⟩,_⟩:=x;exact IF e
 | rng lo hi=>obtain ⟨_,_,_,e⟩:=x;exact IF e
 | frz ob u=>obtain ⟨e,_⟩:=x;exact IF e
 | tbl ps=>exact IF (show h.get? a=some _ from x)
 | met f y=>exact IF (show h.get? a=some _ from x)
 | ext φ=>obtain ⟨_,⟨_,e⟩,_⟩:=x;exact IF e
theorem Paired.GP {α β:Type} {F G:α->β->Prop}:∀ {l₁:List α} {l₂:List β},Paired F l₁ l₂->(∀ a b,F a b->G a b)->Paired G l₁ l₂
 | _,_,.nil,_=>.nil
 | _,_,.cons r t,f=>.cons (f _ _ r) (Paired.GP t f)
theorem bN.lI (x:bN P w H h a o) (k:∀ b u,(b=a\/H b=some (.own a))->h.get? b=some u->h'.get? b=some u)
  (ho:∀ b,H b=some (.own a)->H' b=some (.own a)) (ht:∀ b xs,H b=some (.tup xs)->H' b=some (.tup xs)):bN P w H' h' a o:=by
 induction o with
 | lst xs=>obtain ⟨z,its,n,r,e⟩:=x;exact ⟨z,its,n,r,k _ _ (.inl rfl) e⟩
 | tup xs=>obtain ⟨z,its,r,ob,e,c⟩:=x;exact ⟨z,its,r,ob,k _ _ (.inl rfl) e,c⟩
 | dK kvs=>obtain ⟨z,y,vs,r,ob,es,ep,e,c⟩:=x;exact ⟨z,y,vs,r,ob,es,ep,k _ _ (.inl rfl) e,c⟩
 | dT kvs =>
  obtain ⟨z,y,xs,r,ob,es,ep,e,c⟩:=x;exact ⟨z,y,xs,Paired.GP r fun p q z=>⟨z.1,ht _ _ z.2.1,z.2.2⟩,ob,es,ep,k _ _ (.inl rfl) e,c⟩
 | dD ep xs=>obtain ⟨z,y,nd,ob,es,e,c⟩:=x;exact ⟨z,y,nd,ob,es,k _ _ (.inl rfl) e,c⟩
 | set S n=>obtain ⟨ob,es,ep,t,e,c⟩:=x;exact ⟨ob,es,ep,t,k _ _ (.inl rfl) e,c⟩
 | ins C dx fs =>
  obtain ⟨d,z,ne,e,mA,⟨od,es,ep,e2,c⟩,r⟩:=x;exact ⟨ho _ d,z,ne,k _ _ (.inl rfl) e,mA,⟨od,es,ep,k _ _ (.inr d) e2,c⟩,r⟩
 | own y=>obtain ⟨ob,e⟩:=x;exact ⟨ob,k _ _ (.inl rfl) e⟩
 | xd fs=>obtain ⟨mA,⟨od,es,ep,e,c⟩,r⟩:=x;exact ⟨mA,⟨od,es,ep,k _ _ (.inl rfl) e,c⟩,r⟩
 | rng lo hi=>obtain ⟨t,u,v,e⟩:=x;exact ⟨t,u,v,k _ _ (.inl rfl) e⟩
 | frz ob u ih=>obtain ⟨e,q⟩:=x;exact ⟨k _ _ (.inl rfl) e,ih q⟩
 | tbl ps =>
  have e:h.get? a=some { cls:=.none,data:=.fields ps }:=x;show h'.get? a=some { cls:=.none,data:=.fields ps };exact k a _ (.inl rfl) e
 | met f y =>
  have e:h.get? a=some (PySem.W.methodObj (.ref f) (.ref y)):=x;show h'.get? a=some (PySem.W.methodObj (.ref f) (.ref y));exact k a _ (.inl rfl) e
 | ext φ=>obtain ⟨p,⟨o,e⟩,st⟩:=x;exact ⟨st _ _ p fun o q=>k _ _ (.inl rfl) q,⟨o,k _ _ (.inl rfl) e⟩,st⟩
theorem HOk.lt (x:HOk P w H h) (e:H a=some o):a < h.objs.size:=(x a o e).lt
theorem HOk.fresh (x:HOk P w H h) (e:h.objs.size<=a):H a=none:=by
 cases q:H a with
 | none=>rfl
 | some u=>exact absurd (II (x.lt q) e) (Jo _)
theorem HOk.kept (x:HOk P w H h) (k:∀ b u,h.get? b=some u->h'.get? b=some u):HOk P w H h':=fun a o e =>
 (x a o e).lI (fun b u _ q=>k b u q) (fun _ q=>q) fun _ _ q=>q
theorem HOk.laid (x:HOk P w H h) (k:∀ b u,h.get? b=some u->h'.get? b=some u) (hp:h.objs.size<=a) (new:bN P w (upd H a o) h' a o):HOk P w (upd H a o) h':=fun b u e=>by
 have hn:=x.fresh hp;by_cases hb:b=a
 ·subst hb;rw [aF] at e;cases e;exact new
 ·rw [aA hb] at e;exact (x b u e).lI (fun c v _ q=>k c v q) (fun c q=>by rw [aA (bf q hn)];exact q) fun c xs q=>by rw [aA (bf q hn)];exact q
end
def Rd (H:Hp) (a:Addr) (u:HO):Prop:=H a=some u\/∃ o,H a=some (.frz o u)
theorem Rd.ok {P:Program} {w:World} {H:Hp} {h:Heap} {a:Addr} {u:HO} (r:Rd H a u) (x:HOk P w H h):bN P w H h a u:=by
 rcases r with r | ⟨o,r⟩
 ·exact x a u r
 ·obtain ⟨_,q⟩:=x a _ r;exact q
def Mut:Option HO->Prop
 | some (.lst _)=>True
 | some (.dK _)=>True
 | some (.dT _)=>True
 | some (.dD _ _)=>True
 | some (.set _ _)=>True
 | some (.ins _ _ _)=>True
 | some (.ext _)=>True
 | _=>False
section
variable {P:Program} {w:World} {H:Hp} {h h':Heap} {x e:Addr} {o':HO}
theorem HOk.write (ok:HOk P w H h) (mu:Mut (H x)) (he:e=x\/H e=some (.own x)) (k:∀ b u,b≠e->h.get? b=some u->h'.get? b=some u) (heo:∃ u,h'.get? e=some u)
  (new:bN P w (upd H x o') h' x o'):HOk P w (upd H x o') h':=fun b u q=>by
 have nown:∀ c y,H c=some (.own y)->c≠x:=fun c y r z=>by subst z;rw [r] at mu;exact mu
 have ntup:∀ c xs,H c=some (.tup xs)->c≠x:=fun c xs r z=>by subst z;rw [r] at mu;exact mu
 by_cases hb:b=x
 ·subst hb;rw [aF] at q;cases q;exact new
 ·rw [aA hb] at q;by_cases hbe:b=e
  ·have q':H b=some (.own x):=by
    rcases he with z | z
    ·exact absurd (hbe.trans z) hb
    ·rw [hbe];exact z
   rw [q] at q';cases q';obtain ⟨v,hv⟩:=heo;exact ⟨v,by rw [hbe];exact hv⟩
  ·refine (ok b u q).lI (fun c v hc r=>k c v ?_ r) (fun c r=>by rw [aA (nown c b r)];exact r) fun c xs r=>by rw [aA (ntup c xs r)];exact r
   rcases hc with rfl | hc
   ·exact hbe
   ·rintro rfl;rcases he with z | z
    ·exact nown c b hc z
    ·rw [hc] at z;cases z;exact hb rfl
end
structure Un (fs ex:List Addr) (H H':Hp) (h h':Heap):Prop where
 keep:∀ b o,h.get? b=some o->H b=none->b ∉ fs->b ∉ ex->h'.get? b=some o
 slot:∀ b o,h.get? b=some o->H b=none->b∈fs->b ∉ ex->∃ sl,h'.get? b=some { o with slots:=sl }
 free:∀ b o,h.get? b=some o->H b=none->b ∉ ex->H' b=none
 there:∀ b o,h.get? b=some o->b ∉ ex->∃ o',h'.get? b=some o'
 qv:∀ b xs,H b=some (.tup xs)->H' b=some (.tup xs)
 pI:∀ b o u,H b=some (.frz o u)->H' b=some (.frz o u)
 qU:∀ b ps,H b=some (.tbl ps)->∃ more,H' b=some (.tbl (ps++more))
section
variable {fs fs' ex ex':List Addr} {H H1 H2:Hp} {h h1 h2 h':Heap} {a x e:Addr} {o:HO}
theorem Un.any (u:Un fs ex H H1 h h1) {b:Addr} {ob:Obj} (q:h.get? b=some ob) (n:H b=none) (hx:b ∉ ex):∃ sl,h1.get? b=some { ob with slots:=sl }:=by
 by_cases hb:b∈fs
 ·exact u.slot b ob q n hb hx
 ·exact ⟨ob.slots,u.keep b ob q n hb hx⟩
theorem Un.kept (k:∀ b u,h.get? b=some u->h'.get? b=some u):Un fs ex H H h h' :=
 ⟨fun b ob q _ _ _=>k b ob q,fun b ob q _ _ _=>⟨ob.slots,k b ob q⟩,fun _ _ _ n _=>n,fun b ob q _=>⟨ob,k b ob q⟩,fun _ _ q=>q,fun _ _ _ q=>q,fun _ ps q=>⟨#[],by rw [q];simp⟩⟩
theorem Un.refl:Un fs ex H H h h:=Un.kept fun _ _ q=>q
theorem Un.laid (k:∀ b u,h.get? b=some u->h'.get? b=some u) (hp:h.objs.size<=a) (hn:H a=none):Un fs ex H (upd H a o) h h' where
 keep:=fun b u q _ _ _=>k b u q
 slot:=fun b u q _ _ _=>⟨u.slots,k b u q⟩
 free:=fun b u q n _=>by rw [aA (Jf (II (IF q) hp))];exact n
 there:=fun b u q _=>⟨u,k b u q⟩
 qv:=fun b xs q=>by rw [aA (bf q hn)];exact q
 pI:=fun b u xs q=>by rw [aA (bf q hn)];exact q
 qU:=fun b ps q=>⟨#[],by rw [aA (bf q hn),q];simp⟩
theorem Un.write (mu:Mut (H x)) (he:e=x\/H e=some (.own x)) (k:∀ b u,b≠e->h.get? b=some u->h'.get? b=some u) (heo:∃ u,h'.get? e=some u):Un fs ex H (upd H x o) h h':=by
 have hx:∀ b,H b=none->b≠x:=fun b n z=>by subst z;rw [n] at mu;exact mu
 have hb:∀ b,H b=none->b≠e:=fun b n z=>by
  subst z;rcases he with r | r
  ·exact hx b n r
  ·rw [n] at r;cases r
 have hm:∀ b u,H b=some u->¬Mut (some u)->b≠x:=fun b u q nm z=>by subst z;rw [q] at mu;exact nm mu
 refine ⟨fun b u q n _ _=>k b u (hb b n) q,fun b u q n _ _=>⟨u.slots,k b u (hb b n) q⟩,fun b u q n _=>by rw [aA (hx b n)];exact n,fun b u q _=>?_,
  fun b xs q=>by rw [aA (hm b _ q fun z=>z)];exact q,fun b u xs q=>by rw [aA (hm b _ q fun z=>z)];exact q,fun b ps q=>⟨#[],by rw [aA (hm b _ q fun z=>z),q];simp⟩⟩
 by_cases hbe:b=e
 ·subst hbe;exact heo
 ·exact ⟨u,k b u hbe q⟩
end
def trk (h:Heap) (H:Hp):List Addr:=(List.range h.objs.size).filter fun a=>(H a).isSome
def wq (h:Heap) (H:Hp):Heap:=PySem.W.hideAll h (trk h H)
theorem uK (h:Heap) (H:Hp):(wq h H).objs.size=h.objs.size:=PySem.W.hideAll_size _ _
theorem wy {h:Heap} {H:Hp} {b:Addr} {o:Obj} (e:h.get? b=some o) (n:H b=none):(wq h H).get? b=some o :=
 PySem.W.hideAll_get _ e fun hm=>by
  have q:(H b).isSome=true:=(List.mem_filter.mp hm).2;rw [n] at q;simp at q
theorem zB {h:Heap} {H:Hp} {b:Addr} {o:Obj} (e:(wq h H).get? b=some o):h.get? b=some o/\H b=none:=by
 have e':h.get? b=some o:=PySem.W.of_hideAll (trk h H) e;refine ⟨e',?_⟩;cases q:H b with
 | none=>rfl
 | some x =>
  have hm:b∈trk h H:=List.mem_filter.mpr ⟨List.mem_range.mpr (IF e'),by simp [q]⟩;have z:(wq h H).get? b=none:=PySem.W.hideAll_none (trk h H) hm;rw [z] at e;cases e
def zy (g h:Heap) (L:Addr):List (Addr×Obj):=(List.range h.objs.size).filterMap fun a=>if a=L\/(g.get? a).isSome=true then none else (h.get? a).map fun o=>(a,o)
def rest (g h:Heap) (L d:Addr):List (Addr×Obj):=(zy g h L).filter fun p=>decide (p.1≠d)
end L2
namespace L2
open PySem PySem.Spec PyProof.Rows
structure Mod (K:Fg) (mg:Str->Option Value) (base:Heap):Prop where
 kin:K.In base
 glob:base.Ns mainGlobals mg
 blt:∃ mb,base.Ns builtinsNs mb/\∀ x:Str,x ≠ "__name__" -> mb x=bootBuiltins x
 nolimit:base.NoLimit
structure Cx where
 prog:Program
 w:World
 K:Fg
 mg:Str->Option Value
 base:Heap
 A:Around
 N:List Str
 s₀:Shared
 H₀:Hp
 env:Env
 outer:List Env
 stack:List Env
 ex:List Addr
 fn:Str->Bool
 calm:Bool
 pn:List (Addr×Obj)
 xe:Value->Shared->Prop
def frs (l:List Env):List Addr:=l.filterMap (·.frame)
abbrev Cx.fs (X:Cx):List Addr:=frs X.outer
def Vis (sc:Scope) (x:Str):Prop:=sc.names.lookup x=some .local\/sc.names.lookup x=some .cell\/sc.names.lookup x=some .free
def Loc (sc:Scope) (x:Str):Prop:=sc.names.lookup x=some .local\/sc.names.lookup x=some .cell
def Look (env:Env) (h:Heap) (m:Str->Option Value) (x:Str) (u:Value):Prop :=
 (env.kindOf x=some .local/\m x=some u)\/((env.kindOf x=some .cell\/env.kindOf x=some .free)/\∃ c,env.cells.lookup x=some c/\h.IsCell c (some u))
structure Cx.Ok (X:Cx):Prop where
 mod:Mod X.K X.mg X.base
 kind:X.env.scope.kind=.function
 glob:X.env.globals=mainGlobals
 blt:X.env.builtins=builtinsNs
 above:X.s₀.heap.objs.size<=X.env.locals
 inj:∀ x y c,X.env.cells.lookup x=some c->X.env.cells.lookup y=some c->x=y
 has:∀ x,(X.env.kindOf x=some .cell\/X.env.kindOf x=some .free)->∃ c,X.env.cells.lookup x=some c
 cab:∀ x c,X.fn x=true->X.env.cells.lookup x=some c->X.s₀.heap.objs.size<=c
 hd:X.calm=true->X.A.handled=none
 frames:X.A.frames=some X.stack
 stk:X.stack=X.outer\/(X.stack=X.env :: X.outer/\X.env.frame=some X.env.locals)
 exf:∀ b∈X.ex,b≠X.env.locals/\∀ x c,X.env.cells.lookup x=some c->c≠b
 bs:∀ b o,X.base.get? b=some o->X.s₀.heap.get? b=some o/\X.H₀ b=none
 bsz:X.base.objs.size<=X.s₀.heap.objs.size
 wB:∀ b o,X.base.get? b=some o->b ∉ X.ex
 xa:∀ b∈X.ex,b ∉ X.fs
 nt:X.s₀.heap.FunFrames X.base X.outer
 frf:∀ b∈X.fs,X.H₀ b=none
structure Inv (X:Cx) (pins:List (Addr×Obj)) (σ:List (Option V)) (H:Hp) (s:Shared):Prop where
 ok:X.Ok
 os:s.os=X.s₀.os
 bare:AllBare s.gens
 base:Un X.fs X.ex X.H₀ H X.s₀.heap s.heap
 loc:∃ m,s.heap.Ns X.env.locals m/\∀ (i:Nat) (x:Str) (v:V),X.N[i]?=some x->σ[i]?=some (some v)->Vis X.env.scope x->∃ u,RelV v u/\Look X.env s.heap m x u
 cell:∀ x c,X.env.cells.lookup x=some c->∃ v,s.heap.IsCell c v
 free:H X.env.locals=none
 fg:∀ x c,X.env.cells.lookup x=some c->H c=none
 pin:∀ p∈X.pn++pins,s.heap.get? p.1=some p.2/\H p.1=none/\p.1≠X.env.locals/\p.1 ∉ X.fs/\∀ v,p.2.data≠.cell v
 hok:HOk X.prog X.w H s.heap
 len:σ.length=X.N.length
section
variable {X:Cx} {pins:List (Addr×Obj)} {σ:List (Option V)} {H H':Hp} {s:Shared} {h':Heap}
theorem Cx.Ok.HY (ok:X.Ok) {b:Addr} {o:Obj} (e:X.base.get? b=some o):b ∉ X.fs:=fun hb=>by
 have:=(ok.nt.mem hb).1;rw [e] at this;cases this
theorem Inv.bs (I:Inv X pins σ H s):∀ b o,X.base.get? b=some o->s.heap.get? b=some o/\H b=none:=fun b o e =>
 ⟨I.base.keep b o (I.ok.bs b o e).1 (I.ok.bs b o e).2 (I.ok.HY e) (I.ok.wB b o e),I.base.free b o (I.ok.bs b o e).1 (I.ok.bs b o e).2 (I.ok.wB b o e)⟩
theorem Inv.bk (I:Inv X pins σ H s):∀ b o,X.base.get? b=some o->s.heap.get? b=some o:=fun b o e=>(I.bs b o e).1
theorem Inv.mod (I:Inv X pins σ H s):Mod X.K X.mg X.base:=I.ok.mod
theorem Inv.kIn (I:Inv X pins σ H s):X.K.In s.heap:=I.ok.mod.kin.keeps I.bk
theorem Inv.lt (I:Inv X pins σ H s):X.env.locals < s.heap.objs.size:=let ⟨_,hn,_⟩:=I.loc;hn.lt
theorem Inv.sz (I:Inv X pins σ H s):X.s₀.heap.objs.size<=s.heap.objs.size:=IY I.ok.above (K1 I.lt)
theorem Inv.A6 (I:Inv X pins σ H s) {a:Addr} (h:s.heap.objs.size<=a):a ∉ X.fs:=fun hb=>by
 obtain ⟨_,o,ho,_⟩:=I.ok.nt.mem hb;exact absurd (II (IF ho) (IY I.sz h)) (Jo _)
theorem Inv.cne (I:Inv X pins σ H s):∀ x c,X.env.cells.lookup x=some c->c≠X.env.locals:=fun x c e z=>by
 obtain ⟨v,o,ho,hd⟩:=I.cell x c e;obtain ⟨m,⟨o',es,ep,ho',hd',_⟩,_⟩:=I.loc;rw [z,ho'] at ho;cases ho;rw [hd'] at hd;cases hd
theorem Inv.nt (I:Inv X pins σ H s):s.heap.FunFrames X.base X.outer:=by
 have all:∀ (l:List Env),(∀ b∈frs l,b∈X.fs)->X.s₀.heap.FunFrames X.base l->s.heap.FunFrames X.base l:=by
  intro l;induction l with
  | nil=>intro _ _;trivial
  | cons env r ih =>
   intro hs hl;obtain ⟨hk,⟨L,o,hf,hn,ho,hd⟩,hr⟩:=hl;have hL:L∈X.fs:=hs L (by unfold frs;rw [J3,hf];exact Ik);obtain ⟨sl,e⟩:=I.base.slot L o ho (I.ok.frf L hL) hL fun z=>I.ok.xa L z hL;exact ⟨hk,⟨L,_,hf,hn,e,hd⟩,ih (fun b hb=>hs b (by unfold frs;rw [J3,hf];exact Io _ hb)) hr⟩
 exact all X.outer (fun _ hb=>hb) I.ok.nt
theorem Inv.stack (I:Inv X pins σ H s):s.heap.FunFrames X.base X.stack:=by
 rcases I.ok.stk with e | ⟨e,hf⟩
 ·rw [e];exact I.nt
 ·rw [e];obtain ⟨m,hn,_⟩:=I.loc;refine .cons (by rw [I.ok.kind];decide) hf hn ?_ I.nt;exact Heap.get?_none_of_le (IY I.ok.bsz I.ok.above)
theorem Inv.pV (I:Inv X pins σ H s):∀ b∈frs X.stack,b∈X.env.locals :: X.fs:=fun b hb=>by
 rcases I.ok.stk with e | ⟨e,hf⟩
 ·rw [e] at hb;exact Io _ hb
 ·rw [e] at hb;unfold frs at hb;rw [J3,hf] at hb;exact hb
theorem Inv.lG (I:Inv X pins σ H s):∀ b∈frs X.stack,H b=none:=fun b hb=>by
 rcases Iz.mp (I.pV b hb) with e | hb
 ·rw [e];exact I.free
 ·obtain ⟨_,o,ho,_⟩:=I.ok.nt.mem hb;exact I.base.free b o ho (I.ok.frf b hb) fun z=>I.ok.xa b z hb
theorem Inv.step {g':Array GenState} {t':Nat} {d':Drawn} {ch:List Addr} (I:Inv X pins σ H s)
  (hch:∀ b∈ch,(b∈X.ex\/X.s₀.heap.objs.size<=b)/\b≠X.env.locals/\(∀ x c,X.env.cells.lookup x=some c->c≠b)/\∀ p∈X.pn++pins,p.1≠b)
  (keep:∀ b o,b≠X.env.locals->b ∉ X.fs->b ∉ ch->s.heap.get? b=some o->H b=none->h'.get? b=some o)
  (slot:∀ b o,b≠X.env.locals->b∈X.fs->b ∉ ch->s.heap.get? b=some o->H b=none->∃ sl,h'.get? b=some { o with slots:=sl }) (free:∀ b o,b ∉ ch->s.heap.get? b=some o->H b=none->H' b=none)
  (there:∀ b o,b ∉ ch->s.heap.get? b=some o->∃ o',h'.get? b=some o')
  (qv:∀ b xs,H b=some (.tup xs)->H' b=some (.tup xs)) (pI:∀ b o u,H b=some (.frz o u)->H' b=some (.frz o u)) (qU:∀ b ps,H b=some (.tbl ps)->∃ more,H' b=some (.tbl (ps++more)))
  (ns:∀ m,s.heap.Ns X.env.locals m->h'.Ns X.env.locals m) (hok:HOk X.prog X.w H' h') (hg:AllBare g') :
  Inv X pins σ H' { s with heap:=h',gens:=g',drawn:=d',toks:=t' }:=by
 have neL:∀ b o,X.s₀.heap.get? b=some o->b≠X.env.locals:=fun b o e=>Jf (II (IF e) I.ok.above);have neC:∀ b o,X.s₀.heap.get? b=some o->b ∉ X.ex->b ∉ ch:=fun b o e hx hb=>by
  rcases (hch b hb).1 with z | z
  ·exact hx z
  ·exact absurd (II (IF e) z) (Jo _)
 have cellK:∀ x c,X.env.cells.lookup x=some c->∀ v,s.heap.IsCell c v->h'.IsCell c v:=fun x c e v ⟨o,ho,hd⟩=>by
  have nch:c ∉ ch:=fun z=>(hch c z).2.2.1 x c e rfl;by_cases hc:c∈X.fs
  ·obtain ⟨sl,q⟩:=slot c o (I.cne x c e) hc nch ho (I.fg x c e);exact ⟨_,q,hd⟩
  ·exact ⟨o,keep c o (I.cne x c e) hc nch ho (I.fg x c e),hd⟩
 refine ⟨I.ok,I.os,hg,⟨fun b o e n hb hx=>?_,fun b o e n hb hx=>?_,fun b o e n hx=>?_,fun b o e hx=>?_,fun b xs e=>qv b xs (I.base.qv b xs e),fun b o xs e=>pI b o xs (I.base.pI b o xs e),fun b ps e=>?_⟩,?_,fun x c e=>?_,?_,fun x c e=>?_,fun p hp=>?_,hok,I.len⟩
 ·exact keep b o (neL b o e) hb (neC b o e hx) (I.base.keep b o e n hb hx) (I.base.free b o e n hx)
 ·obtain ⟨sl,e1⟩:=I.base.slot b o e n hb hx;obtain ⟨sl',e2⟩:=slot b _ (neL b o e) hb (neC b o e hx) e1 (I.base.free b o e n hx);exact ⟨sl',e2⟩
 ·obtain ⟨o',e1⟩:=I.base.there b o e hx;exact free b o' (neC b o e hx) e1 (I.base.free b o e n hx)
 ·obtain ⟨o',e1⟩:=I.base.there b o e hx;exact there b o' (neC b o e hx) e1
 ·obtain ⟨m1,e1⟩:=I.base.qU b ps e;obtain ⟨m2,e2⟩:=qU b _ e1;exact ⟨m1++m2,by rw [e2,Array.append_assoc]⟩
 ·obtain ⟨m,hn,hl⟩:=I.loc;refine ⟨m,ns m hn,fun i x v e1 e2 e3=>?_⟩;obtain ⟨u,r,l⟩:=hl i x v e1 e2 e3;refine ⟨u,r,?_⟩;rcases l with l | ⟨k,c,e,z⟩
  ·exact .inl l
  ·exact .inr ⟨k,c,e,cellK x c e _ z⟩
 ·obtain ⟨v,z⟩:=I.cell x c e;exact ⟨v,cellK x c e v z⟩
 ·obtain ⟨m,⟨o,_,_,ho,_⟩,_⟩:=I.loc;exact free _ o (fun z=>(hch _ z).2.1 rfl) ho I.free
 ·obtain ⟨v,o,ho,hd⟩:=I.cell x c e;exact free c o (fun z=>(hch c z).2.2.1 x c e rfl) ho (I.fg x c e)
 ·obtain ⟨e,n,ne,nf,d⟩:=I.pin p hp;have nch:p.1 ∉ ch:=fun z=>(hch p.1 z).2.2.2 p hp rfl;exact ⟨keep p.1 p.2 ne nf nch e n,free p.1 p.2 nch e n,ne,nf,d⟩
theorem Inv.un {t':Nat} (I:Inv X pins σ H s) (u:Un X.fs [] H H' s.heap h') (hok:HOk X.prog X.w H' h'):Inv X pins σ H' { s with heap:=h',toks:=t' }:=by
 obtain ⟨m,⟨o,es,ep,ho,r⟩,_⟩:=id I.loc;obtain ⟨sl,hL⟩:=u.any ho I.free (by simp)
 exact I.step (g':=s.gens) (d':=s.drawn) (ch:=[]) (fun _ z=>nomatch z) (fun b o _ hb _ e n=>u.keep b o e n hb (by simp)) (fun b o _ hb _ e n=>u.slot b o e n hb (by simp)) (fun b o _ e n=>u.free b o e n (by simp)) (fun b o _ e=>u.there b o e (by simp)) u.qv u.pI u.qU (fun m' hm=>by
  obtain ⟨o',es',ep',ho',r'⟩:=hm;rw [ho] at ho';cases ho'
  exact ⟨_,es',ep',hL,r'⟩) hok I.bare
theorem Inv.call {g':Array GenState} {t':Nat} {d':Drawn} {ch:List Addr} (I:Inv X pins σ H s) (u:Un (frs X.stack) ch H H' s.heap h') (hok:HOk X.prog X.w H' h') (hg:AllBare g')
  (hch:∀ b∈ch,(b∈X.ex\/X.s₀.heap.objs.size<=b)/\b≠X.env.locals/\(∀ x c,X.env.cells.lookup x=some c->c≠b)/\∀ p∈X.pn++pins,p.1≠b) :
  Inv X pins σ H' { s with heap:=h',gens:=g',drawn:=d',toks:=t' }:=by
 obtain ⟨m,⟨o,es,ep,ho,r⟩,_⟩:=id I.loc;obtain ⟨sl,hL⟩:=u.any ho I.free fun z=>(hch _ z).2.1 rfl
 exact I.step (ch:=ch) hch (fun b o hL hb hc e n=>u.keep b o e n (fun z=>(Iz.mp (I.pV b z)).elim hL hb) hc) (fun b o _ _ hc e n=>u.any e n hc) (fun b o hc e n=>u.free b o e n hc) (fun b o hc e=>u.there b o e hc) u.qv u.pI u.qU (fun m' hm=>by
  obtain ⟨o',es',ep',ho',r'⟩:=hm;rw [ho] at ho';cases ho'
  exact ⟨_,es',ep',hL,r'⟩) hok hg
theorem Inv.turned {t':Nat} {it:Addr} (I:Inv X pins σ H s) (k:∀ b o,b≠it->s.heap.get? b=some o->h'.get? b=some o) (hn:H it=none) (hL:it≠X.env.locals)
  (h1:it∈X.ex\/X.s₀.heap.objs.size<=it) (h2:∀ x c,X.env.cells.lookup x=some c->c≠it) (h3:∀ p∈X.pn++pins,p.1≠it):Inv X pins σ H { s with heap:=h',toks:=t' }:=by
 have nit:∀ b u,H b=some u->b≠it:=fun b u e z=>by rw [z,hn] at e;cases e
 refine I.step (g':=s.gens) (d':=s.drawn) (ch:=[it]) (fun b hb=>?_) (fun b o _ _ hc e _=>k b o (fun z=>hc (by simp [z])) e) (fun b o _ _ hc e _=>⟨o.slots,k b o (fun z=>hc (by simp [z])) e⟩) (fun _ _ _ _ n=>n)
  (fun b o hc e=>⟨o,k b o (fun z=>hc (by simp [z])) e⟩) (fun _ _ e=>e) (fun _ _ _ e=>e) (fun b ps e=>⟨#[],by rw [e];simp⟩) (fun m hm=>?_) (fun b u e=>?_) I.bare
 ·have e:b=it:=by simpa using hb
  subst e;exact ⟨h1,hL,h2,h3⟩
 ·obtain ⟨o,es,ep,ho,r⟩:=hm;exact ⟨o,es,ep,k _ o (Ne.symm hL) ho,r⟩
 ·refine (I.hok b u e).lI (fun c v hc q=>k c v ?_ q) (fun _ q=>q) fun _ _ q=>q;rcases hc with z | z
  ·rw [z];exact nit b u e
  ·exact nit c _ z
theorem Inv.tok (I:Inv X pins σ H s) (t:Nat):Inv X pins σ H { s with toks:=t }:=I.un (h':=s.heap) (t':=t) Un.refl I.hok
theorem Inv.kept {t':Nat} (I:Inv X pins σ H s) (k:∀ b u,s.heap.get? b=some u->h'.get? b=some u):Inv X pins σ H { s with heap:=h',toks:=t' }:=I.un (Un.kept k) (I.hok.kept k)
theorem Inv.laid {a:Addr} {o:HO} {t':Nat} (I:Inv X pins σ H s) (k:∀ b u,s.heap.get? b=some u->h'.get? b=some u) (hp:s.heap.objs.size<=a) (new:bN X.prog X.w (upd H a o) h' a o) :
  Inv X pins σ (upd H a o) { s with heap:=h',toks:=t' }:=I.un (Un.laid k hp (I.hok.fresh hp)) (I.hok.laid k hp new)
theorem Inv.write {x e:Addr} {o:HO} {t':Nat} (I:Inv X pins σ H s) (mu:Mut (H x)) (he:e=x\/H e=some (.own x)) (k:∀ b u,b≠e->s.heap.get? b=some u->h'.get? b=some u) (heo:∃ u,h'.get? e=some u)
  (new:bN X.prog X.w (upd H x o) h' x o):Inv X pins σ (upd H x o) { s with heap:=h',toks:=t' }:=I.un (Un.write mu he k heo) (I.hok.write mu he k heo new)
theorem Inv.cP {pins':List (Addr×Obj)} (I:Inv X pins σ H s) (h:∀ p∈pins',s.heap.get? p.1=some p.2/\H p.1=none/\p.1≠X.env.locals/\p.1 ∉ X.fs/\∀ v,p.2.data≠.cell v):Inv X pins' σ H s :=
 ⟨I.ok,I.os,I.bare,I.base,I.loc,I.cell,I.free,I.fg,fun p hp=>(Ja.mp hp).elim (fun z=>I.pin p (IL _ z)) (h p),I.hok,I.len⟩
theorem ph {N:List Str} (hN:N.Nodup) {i j:Nat} {x:Str} (a:N[i]?=some x) (b:N[j]?=some x):i=j:=by
 obtain ⟨h1,e1⟩:=Ie.mp a;obtain ⟨h2,e2⟩:=Ie.mp b;exact (List.getElem_inj hN).mp (e1.trans e2.symm)
theorem sU {M:Model} {A:Around} {E:Value->Shared->Prop} {i:Nat} {x:Str} {v:V} {u:Value} {Q:Unit->Shared->Prop} (I:Inv X pins σ H s) (hN:X.N.Nodup) (hi:X.N[i]?=some x) (hx:Loc X.env.scope x) (r:RelV v u)
  (h:∀ s',Inv X pins (σ.set i (some v)) H s'->(∃ a,Heap.SameBut a s.heap s'.heap/\(a=X.env.locals\/X.env.cells.lookup x=some a))->Q () s') (hf:X.fn x=true\/X.env.scope.names.lookup x=some .local:=by first | exact .inl rfl | exact .inr rfl | assumption):wpAny M A (storeName X.env x u) Q E s:=by
 obtain ⟨m,hn,hl⟩:=id I.loc;have hcls:(X.env.scope.kind==.class||(X.env.scope.kind==.module&&X.env.locals != X.env.globals))=false:=by rw [I.ok.kind];rfl
 have hiσ:i < σ.length:=by rw [I.len];exact (Ie.mp hi).1
 have cne:=I.cne;have tracked:∀ {a:Addr} {h':Heap},(∃ o,s.heap.get? a=some o/\H a=none)->Heap.SameBut a s.heap h'->HOk X.prog X.w H h':=fun {a h'} ha hs b ob e=>by
  obtain ⟨_,_,hfree⟩:=ha;refine (I.hok b ob e).lI (fun c w' hc q=>(hs.2 c ?_).trans q) (fun _ q=>q) fun _ _ q=>q;rintro rfl;rcases hc with rfl | hc
  ·rw [hfree] at e;cases e
  ·rw [hfree] at hc;cases hc
 rcases hx with hk | hk
 ·refine wpAny_storeName_local hk hn (fun h' hn' hs=>?_) hcls;obtain ⟨oL,_,_,hoL,_⟩:=id hn;refine h _ ⟨I.ok,I.os,I.bare,⟨fun b o e n hb hx=>?_,fun b o e n hb hx=>?_,I.base.free,fun b o e hx=>?_,I.base.qv,I.base.pI,I.base.qU⟩,⟨_,hn',fun j y v' e1 e2 e3=>?_⟩,fun y c e=>?_,I.free,I.fg,fun p hp=>?_,tracked ⟨oL,hoL,I.free⟩ hs,by simpa using I.len⟩ ⟨_,hs,.inl rfl⟩
  ·exact (hs.2 b (Jf (II (IF e) I.ok.above))).trans (I.base.keep b o e n hb hx)
  ·obtain ⟨sl,e1⟩:=I.base.slot b o e n hb hx;exact ⟨sl,(hs.2 b (Jf (II (IF e) I.ok.above))).trans e1⟩
  ·obtain ⟨o',e1⟩:=I.base.there b o e hx;exact ⟨o',(hs.2 b (Jf (II (IF e) I.ok.above))).trans e1⟩
  ·by_cases hj:j=i
   ·subst hj;rw [hi] at e1;cases e1;rw [Ir hiσ] at e2;cases e2;exact ⟨u,r,.inl ⟨hk,by simp⟩⟩
   ·rw [Ih (Ne.symm hj)] at e2;obtain ⟨u',r',q⟩:=hl j y v' e1 e2 e3;refine ⟨u',r',?_⟩;rcases q with ⟨k,e⟩ | ⟨k,c,e,z⟩
    ·refine .inl ⟨k,?_⟩;have:y≠x:=fun e=>hj (ph hN e1 (e▸hi));simp [this,e]
    ·exact .inr ⟨k,c,e,z.sameBut hs (cne y c e)⟩
  ·obtain ⟨w',z⟩:=I.cell y c e;exact ⟨w',z.sameBut hs (cne y c e)⟩
  ·obtain ⟨e,n,ne,nf,d⟩:=I.pin p hp;exact ⟨(hs.2 p.1 ne).trans e,n,ne,nf,d⟩
 ·have hfn:X.fn x=true:=by
   rcases hf with z | z
   ·exact z
   ·rw [z] at hk;cases hk
  obtain ⟨c,hc⟩:=I.ok.has x (.inl hk);obtain ⟨w',z⟩:=I.cell x c hc;refine wpAny_storeName_cell I.ok.kind hk hc z (fun h' hc' hs=>?_);obtain ⟨oc,hoc,hocd⟩:=id z;refine h { s with heap:=h' } ⟨I.ok,I.os,I.bare,⟨fun b o e n hb hx=>?_,fun b o e n hb hx=>?_,I.base.free,fun b o e hx=>?_,I.base.qv,I.base.pI,I.base.qU⟩,⟨m,hn.sameBut hs (Ne.symm (cne x c hc)),fun j y v' e1 e2 e3=>?_⟩,fun y c' e=>?_,I.free,I.fg,fun p hp=>?_,tracked ⟨oc,hoc,I.fg x c hc⟩ hs,by simpa using I.len⟩ ⟨c,hs,.inr hc⟩
  ·exact (hs.2 b (Jf (II (IF e) (I.ok.cab x c hfn hc)))).trans (I.base.keep b o e n hb hx)
  ·obtain ⟨sl,e1⟩:=I.base.slot b o e n hb hx;exact ⟨sl,(hs.2 b (Jf (II (IF e) (I.ok.cab x c hfn hc)))).trans e1⟩
  ·obtain ⟨o',e1⟩:=I.base.there b o e hx;exact ⟨o',(hs.2 b (Jf (II (IF e) (I.ok.cab x c hfn hc)))).trans e1⟩
  ·by_cases hj:j=i
   ·subst hj;rw [hi] at e1;cases e1;rw [Ir hiσ] at e2;cases e2;exact ⟨u,r,.inr ⟨.inl hk,c,hc,hc'⟩⟩
   ·rw [Ih (Ne.symm hj)] at e2;obtain ⟨u',r',q⟩:=hl j y v' e1 e2 e3;refine ⟨u',r',?_⟩;rcases q with q | ⟨k,c',e,z'⟩
    ·exact .inl q
    ·refine .inr ⟨k,c',e,z'.sameBut hs ?_⟩;rintro rfl;exact hj (ph hN e1 (I.ok.inj _ _ _ e hc▸hi))
  ·by_cases hcc:c'=c
   ·subst hcc;exact ⟨_,hc'⟩
   ·obtain ⟨w2,z2⟩:=I.cell y c' e;exact ⟨w2,z2.sameBut hs hcc⟩
  ·obtain ⟨e,n,ne,nf,d⟩:=I.pin p hp;refine ⟨(hs.2 p.1 ?_).trans e,n,ne,nf,d⟩;intro q;rw [q,hoc] at e;have q':oc=p.2:=Jk e;exact d w' (by rw [<- q'];exact hocd)
theorem kX {M:Model} {A:Around} {E:Value->Shared->Prop} {i:Nat} {x:Str} {v:V} {u:Value} {Q:Unit->Shared->Prop} (I:Inv X pins σ H s) (hN:X.N.Nodup) (hi:X.N[i]?=some x) (hx:Loc X.env.scope x) (r:RelV v u)
  (h:∀ s',Inv X pins (σ.set i (some v)) H s'->Q () s') (hf:X.fn x=true\/X.env.scope.names.lookup x=some .local:=by first | exact .inl rfl | exact .inr rfl | assumption):wpAny M A (storeName X.env x u) Q E s :=
 sU I hN hi hx r (fun s' I' _=>h s' I') hf
theorem Inv.D5 {s':Shared} {ch:List Addr} (I:Inv X pins σ H s) (ho:s'.os=s.os) (u:Un (frs X.stack) ch H H' s.heap s'.heap) (hok:HOk X.prog X.w H' s'.heap) (hg:AllBare s'.gens)
  (hch:∀ b∈ch,(b∈X.ex\/X.s₀.heap.objs.size<=b)/\b≠X.env.locals/\(∀ x c,X.env.cells.lookup x=some c->c≠b)/\∀ p∈X.pn++pins,p.1≠b):Inv X pins σ H' s':=by
 obtain ⟨h',g',d',t',o'⟩:=s';have e:o'=s.os:=ho;subst e;exact I.call (g':=g') (t':=t') (d':=d') u hok hg hch
end
abbrev XK:=Value->Option Addr->Hp->Prop
abbrev St:=List (Option V)
abbrev VK:=V->Hp->Prop
abbrev TE:=St->Hp->VK->Prop
abbrev TT:=St->Hp->(Bool->Hp->Prop)->Prop
abbrev TA:=St->Hp->(List V->Hp->Prop)->Prop
structure Ends where
 nx:St->Hp->Prop
 rt:VK
 bk:St->Hp->Prop:=fun _ _=>False
 ct:St->Hp->Prop:=fun _ _=>False
abbrev TS:=Ends->St->Hp->Prop
def EP (X:Cx) (pins:List (Addr×Obj)) (σ:St) (Q:VK) (u:Value) (s':Shared):Prop:=∃ v H',Inv X pins σ H' s'/\RelV v u/\Q v H'
def TP (X:Cx) (pins:List (Addr×Obj)) (σ:St) (Q:Bool->Hp->Prop) (b:Bool) (s':Shared):Prop:=∃ H',Inv X pins σ H' s'/\Q b H'
def AP (X:Cx) (pins:List (Addr×Obj)) (σ:St) (Q:List V->Hp->Prop) (us:List Value) (s':Shared):Prop:=∃ vs H',Inv X pins σ H' s'/\Vals vs us/\Q vs H'
def SP (X:Cx) (pins:List (Addr×Obj)) (D:Ends) (f:Flow) (s':Shared):Prop :=
 match f with
 | .next=>∃ σ' H',Inv X pins σ' H' s'/\D.nx σ' H'
 | .brk=>∃ σ' H',Inv X pins σ' H' s'/\D.bk σ' H'
 | .cont=>∃ σ' H',Inv X pins σ' H' s'/\D.ct σ' H'
 | .ret u=>∃ v σ' H',Inv X pins σ' H' s'/\RelV v u/\D.rt v H'
def PE (X:Cx) (e:Expr) (t:TE):Prop :=
 ∀ (pins:List (Addr×Obj)) (s:Shared) (σ:St) (H:Hp) (Q:VK),Inv X pins σ H s->t σ H Q->wpAny (model X.prog X.w) X.A (eval e X.env) (EP X pins σ Q) X.xe s
def PT (X:Cx) (e:Expr) (t:TT):Prop :=
 ∀ (pins:List (Addr×Obj)) (s:Shared) (σ:St) (H:Hp) (Q:Bool->Hp->Prop),Inv X pins σ H s->t σ H Q->wpAny (model X.prog X.w) X.A (isTrue e X.env (eval e X.env)) (TP X pins σ Q) X.xe s
def PW (X:Cx) (e:Expr) (t:TT):Prop :=
 ∀ (whole:Sem Value) (pins:List (Addr×Obj)) (s:Shared) (σ:St) (H:Hp) (Q:Bool->Hp->Prop),Inv X pins σ H s->t σ H Q->wpAny (model X.prog X.w) X.A (isTrue e X.env whole) (TP X pins σ Q) X.xe s
theorem PW.pt {X:Cx} {e:Expr} {t:TT} (h:PW X e t):PT X e t:=h _
def PA (X:Cx) (es:List Expr) (t:TA):Prop :=
 ∀ (pos:Pos) (pins:List (Addr×Obj)) (s:Shared) (σ:St) (H:Hp) (Q:List V->Hp->Prop),Inv X pins σ H s->t σ H Q->wpAny (model X.prog X.w) X.A (spliced (backTo pos (starEach es X.env))) (AP X pins σ Q) X.xe s
def PS (X:Cx) (st:Stmt) (t:TS):Prop :=
 ∀ (pins:List (Addr×Obj)) (s:Shared) (σ:St) (H:Hp) (D:Ends),Inv X pins σ H s->t D σ H->wpAny (model X.prog X.w) X.A (exec st X.env) (SP X pins D) X.xe s
def PSs (X:Cx) (st:List Stmt) (t:TS):Prop :=
 ∀ (pins:List (Addr×Obj)) (s:Shared) (σ:St) (H:Hp) (D:Ends),Inv X pins σ H s->t D σ H->wpAny (model X.prog X.w) X.A (execs st X.env) (SP X pins D) X.xe s
theorem thn {α:Type} {t:Sem α} {Q Q':α->Shared->Prop} {M:Model} {A:Around} {E:Value->Shared->Prop} {s:Shared} (h:wpAny M A t Q E s) (hQ:∀ a s,Q a s->Q' a s):wpAny M A t Q' E s:=Jb h hQ fun _ _ x=>x
end L2
namespace L2
open PySem PySem.Spec PyProof.Rows
section
variable {X:Cx}
theorem bin {a b:Expr} {ta tb:TE} (ha:PE X a ta) (hb:PE X b tb) {pins:List (Addr×Obj)} {s:Shared} {σ:St} {H:Hp} {R:V->V->Hp->Prop} (I:Inv X pins σ H s) (h:ta σ H fun x H1=>tb σ H1 fun y H2=>R x y H2)
  {α:Type} {Q:α->Shared->Prop} {f:Value->Value->Sem α}
  (hf:∀ v u s2 x y H2,Inv X pins σ H2 s2->RelV x v->RelV y u->R x y H2->wpAny (model X.prog X.w) X.A (f v u) Q X.xe s2) :
  wpAny (model X.prog X.w) X.A (eval a X.env) (fun v s₁=>wpAny (model X.prog X.w) X.A (eval b X.env) (fun u s₂=>wpAny (model X.prog X.w) X.A (f v u) Q X.xe s₂) X.xe s₁) X.xe s:=by
 refine thn (ha pins s σ H _ I h) fun v s1 ⟨x,H1,I1,r1,q1⟩=>?_;refine thn (hb pins s1 σ H1 _ I1 q1) fun u s2 ⟨y,H2,I2,r2,q2⟩=>?_;exact hf v u s2 x y H2 I2 r1 r2 q2
def ao (i:Nat):TE:=fun σ H Q=>∃ v,σ[i]?=some (some v)/\Q v H
def tC (v:V):TE:=fun _ H Q=>Q v H
theorem wR {i:Nat} {x:Str} {pos:Pos} (hN:X.N[i]?=some x) (hv:Vis X.env.scope x) (hd:(x==("__debug__" : Str))=false:=by decide) (hcd:(x==("__classdict__" : Str))=false:=by decide):PE X (.Name x pos) (ao i):=by
 intro pins s σ H Q I h;obtain ⟨v,e,h⟩:=h;obtain ⟨m,hn,hl⟩:=I.loc;obtain ⟨u,r,l⟩:=hl i x v hN e hv;have fin:EP X pins σ Q u s:=⟨v,H,I,r,h⟩;rcases l with ⟨hk,hm⟩ | ⟨hk,c,hc,hcell⟩
 ·exact wpAny_Name (wpAny_loadName_local I.ok.kind hk hn hm fin) hd
 ·rcases hk with hk | hk
  ·exact wpAny_Name (wpAny_loadName_cell I.ok.kind hk hc hcell fin) hd
  ·exact wpAny_Name (wpAny_loadName_free I.ok.kind hk hc hcell fin hcd) hd
theorem Cr {i j pos}:PE X (.Constant (.int i) j pos) (tC (.int i)):=fun _ _ _ H _ I h=>wpAny_Constant_int ⟨.int i,H,I.tok _,⟨_,rfl⟩,h⟩
theorem Fv {b j pos}:PE X (.Constant (.bool b) j pos) (tC (.bl b)):=fun _ _ _ H _ I h=>Constant_bool ⟨.bl b,H,I,rfl,h⟩
theorem Cd {j pos}:PE X (.Constant .none j pos) (tC .non):=fun _ _ _ H _ I h=>Constant_none ⟨.non,H,I,rfl,h⟩
theorem CN {x j pos}:PE X (.Constant (.str x) j pos) (tC (.str x)):=fun _ _ _ H _ I h=>Calls.Constant_str ⟨.str x,H,I.tok _,⟨_,rfl⟩,h⟩
def Gl (X:Cx) (x:Str):Prop:=X.env.kindOf x=some .globalImplicit
theorem jj {E:Value->Shared->Prop} {pins:List (Addr×Obj)} {s:Shared} {σ:St} {H:Hp} {x:Str} {u:Value} {pos:Pos} {Q:Value->Shared->Prop} (I:Inv X pins σ H s) (hg:Gl X x) (hm:X.mg x=some u) (h:Q u s)
  (hd:(x==("__debug__" : Str))=false:=by decide):wpAny (model X.prog X.w) X.A (eval (.Name x pos) X.env) Q E s :=
 Calls.Name_function_global I.ok.kind hg (Calls.loadGlobal_global (by rw [I.ok.glob];exact I.mod.glob.keeps I.bk) hm h) hd
theorem lK {E:Value->Shared->Prop} {pins:List (Addr×Obj)} {s:Shared} {σ:St} {H:Hp} {x:Str} {u:Value} {pos:Pos} {Q:Value->Shared->Prop} (I:Inv X pins σ H s) (hg:Gl X x) (hm:X.mg x=none) (hv:bootBuiltins x=some u) (h:Q u s)
  (hn:x ≠ "__name__" := by decide) (hd:(x==("__debug__" : Str))=false:=by decide):wpAny (model X.prog X.w) X.A (eval (.Name x pos) X.env) Q E s:=by
 obtain ⟨mb,h1,h2⟩:=I.mod.blt;exact Calls.Name_function_global I.ok.kind hg (Calls.loadGlobal_builtin (by rw [I.ok.glob];exact I.mod.glob.keeps I.bk) hm (by rw [I.ok.blt];exact h1.keeps I.bk) ((h2 x hn).trans hv) h) hd
theorem sC {x:Str} {v:V} {u:Value} {pos:Pos} (hg:Gl X x) (hm:X.mg x=some u) (r:RelV v u) (hd:(x==("__debug__" : Str))=false:=by decide):PE X (.Name x pos) (tC v) :=
 fun _ _ _ H _ I h=>jj I hg hm ⟨v,H,I,r,h⟩ hd
theorem yx {x:Str} {v:V} {u:Value} {pos:Pos} (hg:Gl X x) (hm:X.mg x=none) (hv:bootBuiltins x=some u) (r:RelV v u) (hn:x ≠ "__name__" := by decide) (hd:(x==("__debug__" : Str))=false:=by decide):PE X (.Name x pos) (tC v) :=
 fun _ _ _ H _ I h=>lK I hg hm hv ⟨v,H,I,r,h⟩ hn hd
variable {a b:Expr} {ta tb:TE} {pos:Pos}
def PC (X:Cx) (op:CmpOp) (a b:Expr) (t:TE):Prop :=
 ∀ (pins:List (Addr×Obj)) (s:Shared) (σ:St) (H:Hp) (Q:VK),Inv X pins σ H s->t σ H Q ->
  wpAny (model X.prog X.w) X.A (eval a X.env) (fun v s₁=>wpAny (model X.prog X.w) X.A (eval b X.env) (fun u s₂=>wpAny (model X.prog X.w) X.A (compareOp op v u) (EP X pins σ Q) X.xe s₂) X.xe s₁) X.xe s
theorem vF (b:Expr) {op:CmpOp} (h:op≠.In) (h2:op≠.NotIn):behindInMarks op b=false:=by
 have e1:(op==CmpOp.In)=false:=by cases op <;> first | rfl | exact absurd rfl h
 have e2:(op==CmpOp.NotIn)=false:=by cases op <;> first | rfl | exact absurd rfl h2
 cases b <;> simp [behindInMarks,e1,e2]
def tB (t:TE):TT:=fun σ H Q=>t σ H fun x H1=>∃ c,x=.bl c/\Q c H1
theorem GL {op:CmpOp} {t:TE} (h:PC X op a b t) (h1:behindInMarks op b=false:=by first | exact vF _ (by decide) (by decide) | rfl):PT X (.Compare a [op] [b] pos) (tB t):=by
 intro pins s σ H Q I hw;refine wpAny_isTrue_Compare1 (thn (h pins s σ H _ I hw) fun v s1 h1=>thn h1 fun u s2 h2=>thn h2 fun c s3 ⟨x,H1,I1,r1,q1⟩=>?_) h1;obtain ⟨d,rfl,q⟩:=q1;cases r1;exact Jv ⟨H1,I1,q⟩
theorem CT {e:Expr} {t:TE} (h:PE X e t) (he:∀ whole,isTrue e X.env whole=(do let v<-whole;standAt e.pos;holding [v] (truthy v)):=by intro _;rfl):PT X e (tB t):=by
 intro pins s σ H Q I hw;refine isTrue_plain (thn (h pins s σ H _ I hw) fun v s1 ⟨x,H1,I1,r1,q1⟩=>?_) (he _);obtain ⟨d,rfl,q⟩:=q1;cases r1;exact Jv ⟨H1,I1,q⟩
variable {tA tB':TT} {rest:List Expr}
def Hg (t u:TT):TT:=fun σ H Q=>t σ H fun c H1=>if c=true then u σ H1 Q else Q false H1
def tOr (t u:TT):TT:=fun σ H Q=>t σ H fun c H1=>if c=true then Q true H1 else u σ H1 Q
def pe (t:TT):TT:=fun σ H Q=>t σ H fun c H1=>Q (!c) H1
theorem pw_or1 (ha:PT X a tA):PW X (.BoolOp .Or [a] pos) tA:=by
 intro wh pins s σ H Q I h;refine isTrue_or (thn (ha pins s σ H Q I h) fun c s1 e=>?_);cases c with
 | false=>exact isTrue_or_nil e
 | true=>exact e
theorem pw_or (ha:PT X a tA) (hb:PW X (.BoolOp .Or (b :: rest) pos) tB'):PW X (.BoolOp .Or (a :: b :: rest) pos) (tOr tA tB'):=by
 intro wh pins s σ H Q I h;refine isTrue_or (thn (ha pins s σ H _ I h) fun c s1 ⟨H1,I1,q1⟩=>?_);cases c with
 | true=>exact ⟨H1,I1,q1⟩
 | false=>exact hb wh pins s1 σ H1 Q I1 q1
theorem BO (ha:PT X a tA):PT X (.UnaryOp .Not a pos) (pe tA):=by
 intro pins s σ H Q I h;exact isTrue_not (ha pins s σ H (fun c H1=>Q (!c) H1) I h)
def kI (ta tb:TE):TE:=fun σ H Q=>ta σ H fun x H1=>∃ c,x=.bl c/\if c=true then tb σ H1 Q else Q (.bl false) H1
def Ag (ta tb:TE):TE:=fun σ H Q=>ta σ H fun x H1=>∃ c,x=.bl c/\if c=true then Q (.bl true) H1 else tb σ H1 Q
def sy (ta:TE):TE:=fun σ H Q=>ta σ H fun x H1=>∃ c,x=.bl c/\Q (.bl (!c)) H1
theorem AH {op} {t:TE} (h:PE X a t):PE X (.BoolOp op [a] pos) t:=fun pins s σ H Q I hw=>BoolOp_one (h pins s σ H Q I hw)
theorem Co (ha:PE X a ta) (hb:PE X (.BoolOp .And (b :: rest) pos) tb):PE X (.BoolOp .And (a :: b :: rest) pos) (kI ta tb):=by
 intro pins s σ H Q I h;refine BoolOp_and (thn (ha pins s σ H _ I h) fun v s1 ⟨x,H1,I1,r1,q1⟩=>?_);obtain ⟨c,rfl,q1⟩:=q1;cases r1;refine Jv ?_;cases c with
 | true=>exact hb pins s1 σ H1 Q I1 q1
 | false=>exact ⟨.bl false,H1,I1,rfl,q1⟩
theorem Fh (ha:PE X a ta) (hb:PE X (.BoolOp .Or (b :: rest) pos) tb):PE X (.BoolOp .Or (a :: b :: rest) pos) (Ag ta tb):=by
 intro pins s σ H Q I h;refine BoolOp_or (thn (ha pins s σ H _ I h) fun v s1 ⟨x,H1,I1,r1,q1⟩=>?_);obtain ⟨c,rfl,q1⟩:=q1;cases r1;refine Jv ?_;cases c with
 | false=>exact hb pins s1 σ H1 Q I1 q1
 | true=>exact ⟨.bl true,H1,I1,rfl,q1⟩
theorem Bo (ha:PE X a ta):PE X (.UnaryOp .Not a pos) (sy ta):=by
 intro pins s σ H Q I h;refine UnaryOp_ (thn (ha pins s σ H _ I h) fun v s1 ⟨x,H1,I1,r1,q1⟩=>?_);obtain ⟨c,rfl,q1⟩:=q1;cases r1;exact not_of (Jv ⟨.bl (!c),H1,I1,rfl,q1⟩)
def tIf (t:TT) (ta tb:TE):TE:=fun σ H Q=>t σ H fun c H1=>if c=true then ta σ H1 Q else tb σ H1 Q
end
end L2
namespace L2
open PySem PySem.Spec PyProof.Rows
def SqL (K:Fg) (H:Hp) (a:Addr) (xs:List V):Prop :=
 Rd H a (.lst xs) \/
  ∃ (o:Obj) (its:Array Value) (n:Nat),K.lookup a=some o/\o.cls=.type "list" /\ o.dict=none/\o.data=.seq its n/\its.size<=sizeLine/\Vals xs its.toList
def SqT (K:Fg) (H:Hp) (a:Addr) (xs:List V):Prop :=
 Rd H a (.tup xs) \/
  ∃ (o:Obj) (its:Array Value) (n:Nat),K.lookup a=some o/\o.cls=.type "tuple" /\ o.data=.seq its n/\its.size<=sizeLine/\Vals xs its.toList
def HP:Value->Option V
 | .none=>some .non
 | .bool b=>some (.bl b)
 | .int i _=>some (.int i)
 | .str x _=>some (.str x)
 | .bytes b _=>some (.byt b)
 | .float b _=>some (.flt b)
 | .ref a=>some (.ref a)
 | .type n=>some (.ty n)
 | _=>none
theorem RelV.abs {x:V} {u:Value} (r:RelV x u):HP u=some x:=by
 cases x with
 | non=>cases r;rfl
 | bl _=>cases r;rfl
 | int _=>obtain ⟨t,rfl⟩:=r;rfl
 | str _=>obtain ⟨t,rfl⟩:=r;rfl
 | byt _=>obtain ⟨t,rfl⟩:=r;rfl
 | flt _=>obtain ⟨t,rfl⟩:=r;rfl
 | ref _=>cases r;rfl
 | ty _=>cases r;rfl
theorem RelV.inj {x y:V} {u:Value} (r:RelV x u) (q:RelV y u):x=y:=Jk (r.abs.symm.trans q.abs)
theorem Vals.inj:∀ {xs ys:List V} {us:List Value},Vals xs us->Vals ys us->xs=ys
 | _,_,_,.nil,.nil=>rfl
 | _,_,_,.cons r t,.cons r' t'=>by rw [r.inj r',Vals.inj t t']
section
variable {X:Cx} {pins:List (Addr×Obj)} {σ:St} {H:Hp} {s:Shared} {a:Addr} {xs ys:List V}
theorem SqT.of {K:Fg} (h:H a=some (.tup xs)):SqT K H a xs:=.inl (.inl h)
theorem Inv.list (I:Inv X pins σ H s) (h:SqL X.K H a xs):∃ its:List Value,Vals xs its/\PlainL s.heap a its.toArray/\xs.length<=sizeLine:=by
 rcases h with h | ⟨o,its,n,hk,hc,hd,hs,hz,r⟩
 ·obtain ⟨z,its,n,r,e⟩:=h.ok I.hok;exact ⟨its,r,⟨_,n,e,rfl,rfl,rfl⟩,z⟩
 ·refine ⟨its.toList,r,⟨o,n,I.kIn a o hk,hc,hd,by simpa using hs⟩,?_⟩;have e:=r.length;simp only [JN] at e;omega
theorem Inv.tuple (I:Inv X pins σ H s) (h:SqT X.K H a xs):∃ its:List Value,Vals xs its/\IsTup s.heap a its.toArray/\xs.length<=sizeLine:=by
 rcases h with h | ⟨o,its,n,hk,hc,hs,hz,r⟩
 ·obtain ⟨z,its,r,p⟩:=h.ok I.hok;exact ⟨its,r,p,z⟩
 ·refine ⟨its.toList,r,⟨o,I.kIn a o hk,hc,n,by simpa using hs⟩,?_⟩;have e:=r.length;simp only [JN] at e;omega
theorem Inv.vG (I:Inv X pins σ H s) (h:SqL X.K H a xs) (h':SqL X.K H a ys):xs=ys:=by
 obtain ⟨its,r,⟨o,n,e,_,_,d⟩,_⟩:=I.list h;obtain ⟨its',r',⟨o',n',e',_,_,d'⟩,_⟩:=I.list h';rw [e] at e';cases e';rw [d] at d';injection d' with d1 _;have:its=its':=by simpa using congrArg Array.toList d1
 subst this;exact r.inj r'
theorem Inv.uP (I:Inv X pins σ H s) (h:SqT X.K H a xs) (h':SqT X.K H a ys):xs=ys:=by
 obtain ⟨its,r,⟨o,e,_,n,d⟩,_⟩:=I.tuple h;obtain ⟨its',r',⟨o',e',_,n',d'⟩,_⟩:=I.tuple h';rw [e] at e';cases e';rw [d] at d';injection d' with d1 _;have:its=its':=by simpa using congrArg Array.toList d1
 subst this;exact r.inj r'
end
abbrev Cx.vb (X:Cx) (E:Value->Shared->Prop):Cx:={ X with xe:=E }
abbrev Cx.nox (X:Cx):Cx:=X.vb fun _ _=>False
theorem Cx.Ok.vb {X:Cx} (ok:X.Ok) (E:Value->Shared->Prop):(X.vb E).Ok :=
 ⟨ok.mod,ok.kind,ok.glob,ok.blt,ok.above,ok.inj,ok.has,ok.cab,ok.hd,ok.frames,ok.stk,ok.exf,ok.bs,ok.bsz,ok.wB,ok.xa,ok.nt,ok.frf⟩
theorem Cx.Ok.iA {X:Cx} {E:Value->Shared->Prop} (ok:(X.vb E).Ok):X.Ok :=
 ⟨ok.mod,ok.kind,ok.glob,ok.blt,ok.above,ok.inj,ok.has,ok.cab,ok.hd,ok.frames,ok.stk,ok.exf,ok.bs,ok.bsz,ok.wB,ok.xa,ok.nt,ok.frf⟩
section
variable {X:Cx} {pins:List (Addr×Obj)} {σ:St} {H:Hp} {s:Shared} {E:Value->Shared->Prop}
theorem Inv.vb (I:Inv X pins σ H s) (E:Value->Shared->Prop):Inv (X.vb E) pins σ H s:=⟨I.ok.vb E,I.os,I.bare,I.base,I.loc,I.cell,I.free,I.fg,I.pin,I.hok,I.len⟩
theorem Inv.iA (I:Inv (X.vb E) pins σ H s):Inv X pins σ H s:=⟨I.ok.iA,I.os,I.bare,I.base,I.loc,I.cell,I.free,I.fg,I.pin,I.hok,I.len⟩
theorem SP.iA {D:Ends} {f:Flow} {s':Shared} (h:SP (X.vb E) pins D f s'):SP X pins D f s':=by
 cases f with
 | next=>obtain ⟨σ',H',I,q⟩:=h;exact ⟨σ',H',I.iA,q⟩
 | brk=>obtain ⟨σ',H',I,q⟩:=h;exact ⟨σ',H',I.iA,q⟩
 | cont=>obtain ⟨σ',H',I,q⟩:=h;exact ⟨σ',H',I.iA,q⟩
 | ret u=>obtain ⟨v,σ',H',I,r,q⟩:=h;exact ⟨v,σ',H',I.iA,r,q⟩
theorem PSs.nox {st:List Stmt} {t:TS} (h:PSs X.nox st t):PSs X st t:=fun pins s σ H D I hw =>
 Jb (h pins s σ H D (I.vb _) hw) (fun _ _ q=>q.iA) fun _ _ z=>False.elim z
end
section
variable {X:Cx} {st:Stmt} {rest:List Stmt} {t u:TS} {e:Expr} {te:TE} {pos:Pos}
def cA:TS:=fun D σ H=>D.nx σ H
def b8 (t u:TS):TS:=fun D σ H=>t { D with nx:=u D } σ H
theorem zF:PSs X [] cA:=fun _ _ σ H _ I h=>Ko ⟨σ,H,I,h⟩
theorem vB (h1:PS X st t) (h2:PSs X rest u):PSs X (st :: rest) (b8 t u):=by
 intro pins s σ H D I h;refine JU (thn (h1 pins s σ H { D with nx:=u D } I h) fun f s1 q=>?_);cases f with
 | next =>
  obtain ⟨σ',H',I',q⟩:=q;exact h2 pins s1 σ' H' D I' q
 | ret v=>exact q
 | brk=>exact q
 | cont=>exact q
theorem t7 (h1:PS X st t):PSs X [st] t:=by
 intro pins s σ H D I h;refine JU (thn (h1 pins s σ H D I h) fun f s1 q=>?_);cases f with
 | next=>exact Ko q
 | ret v=>exact q
 | brk=>exact q
 | cont=>exact q
def CI:TS:=fun D σ H=>D.bk σ H
def Ek:TS:=fun D σ H=>D.ct σ H
theorem Inv.quiet {pins:List (Addr×Obj)} {σ:St} {H:Hp} {s:Shared} (I:Inv X pins σ H s):interactive X.env=false:=by simp [interactive,I.ok.kind]
def EA (te:TE):TS:=fun D σ H=>te σ H fun _ H1=>D.nx σ H1
def cH (te:TE):TS:=fun D σ H=>te σ H D.rt
theorem C8 (he:PE X e te):PS X (.Return (some e) pos) (cH te):=by
 intro pins s σ H D I h;exact wpAny_Return_some (thn (he pins s σ H _ I h) fun v s1 ⟨x,H1,I1,r1,q1⟩=>⟨x,σ,H1,I1,r1,q1⟩)
def DX:TS:=fun D _ H=>D.rt .non H
def iO (c:TT) (t u:TS):TS:=fun D σ H=>c σ H fun b H1=>if b=true then t D σ H1 else u D σ H1
theorem Fu {c:Expr} {a b:List Stmt} {tc:TT} (hc:PT X c tc) (ha:PSs X a t) (hb:PSs X b u):PS X (.If c a b pos) (iO tc t u):=by
 intro pins s σ H D I h;refine wpAny_If (thn (hc pins s σ H _ I h) fun d s1 ⟨H1,I1,q1⟩=>?_);cases d with
 | true=>exact ha pins s1 σ H1 D I1 q1
 | false=>exact hb pins s1 σ H1 D I1 q1
def qZ:TS:=fun _ _ _=>False
end
abbrev TG:=V->St->Hp->(St->Hp->Prop)->Prop
abbrev TGs:=List V->St->Hp->(St->Hp->Prop)->Prop
def PG (X:Cx) (target:Expr) (t:TG):Prop :=
 ∀ (pins:List (Addr×Obj)) (s:Shared) (σ:St) (H:Hp) (v:V) (u:Value) (Q:St->Hp->Prop),Inv X pins σ H s->RelV v u->t v σ H Q ->
  wpAny (model X.prog X.w) X.A (assign target X.env u) (fun _ s'=>∃ σ' H',Inv X pins σ' H' s'/\Q σ' H') X.xe s
section
variable {X:Cx} {pos:Pos}
def aZ (i:Nat):TG:=fun v σ H Q=>Q (σ.set i (some v)) H
theorem oK {i:Nat} {x:Str} (hN:X.N.Nodup) (hi:X.N[i]?=some x) (hx:Loc X.env.scope x) (hf:X.fn x=true\/X.env.scope.names.lookup x=some .local:=by first | exact .inl rfl | exact .inr rfl | assumption):PG X (.Name x pos) (aZ i):=by
 intro pins s σ H v u Q I r h;exact wpAny_assign_Name (kX I hN hi hx r (fun s' I'=>⟨_,H,I',h⟩) hf)
def HK:TGs:=fun vs σ H Q=>vs=[]/\Q σ H
def Eu (t:TG) (u:TGs):TGs:=fun vs σ H Q=>∃ v r,vs=v :: r/\t v σ H fun σ' H'=>u r σ' H' Q
def HZ (K:Fg) (n:Nat) (t:TGs):TG:=fun v σ H Q=>∃ a xs,v=.ref a/\SqT K H a xs/\xs.length=n/\t xs σ H Q
def dB (te:TE) (g:TG):TS:=fun D σ H=>te σ H fun x H1=>g x σ H1 D.nx
theorem xK {i:Nat} {x:Str} {e:Expr} {te:TE} {pos':Pos} (hN:X.N.Nodup) (hi:X.N[i]?=some x) (hx:Loc X.env.scope x) (he:PE X e te) (hs:swapsWith e (some (.Name x pos')) pos.line X.env=pure false:=by rfl) (hf:X.fn x=true\/X.env.scope.names.lookup x=some .local:=by first | exact .inl rfl | exact .inr rfl | assumption) :
  PS X (.Assign [.Name x pos'] e pos) (dB te (aZ i)):=by
 intro pins s σ H D I h;refine wpAny_Assign_Name (thn (he pins s σ H _ I h) fun v s1 ⟨y,H1,I1,r1,q1⟩=>?_) hs;exact kX I1 hN hi hx r1 (fun s2 I2=>⟨_,H1,I2,q1⟩) hf
end
section
variable {X:Cx} {pos:Pos}
def oT (c:TT) (tb:TS):TS:=fun D σ H=>∃ W:Nat->St->Hp->Prop,(∃ m,W m σ H)/\∀ m σ H,W m σ H ->
 c σ H fun b H1=>if b=true then ∃ N:St->Hp->Prop,(∀ σ' H',N σ' H'->∃ m',m' < m/\W m' σ' H')/\tb { D with nx:=N,ct:=N,bk:=D.nx } σ H1 else D.nx σ H1
theorem vY {c:Expr} {body:List Stmt} {tc:TT} {tb:TS} (hp:PassesOwn (model X.prog X.w) X.A X.env X.xe) (hc:PT X c tc) (hb:PSs X body tb):PS X (.While c body [] pos) (oT tc tb):=by
 intro pins s σ H D I h;obtain ⟨W,⟨m0,w0⟩,turn⟩:=h;refine wpAny_While (codeAny_whileLoop (fun n s'=>∃ σ' H',Inv X pins σ' H' s'/\W n σ' H') ?_ m0 ⟨σ,H,I,w0⟩);rintro n s1 ⟨σ1,H1,I1,w1⟩;refine Km hp (thn (hc pins s1 σ1 H1 _ I1 (turn n σ1 H1 w1)) fun b s2 ⟨H2,I2,q2⟩=>?_);cases b with
 | true =>
  obtain ⟨N,hN,q2⟩:=q2;rw [Ip rfl];refine Km hp (thn (hb pins s2 σ1 H2 _ I2 q2) fun f s3 q3=>?_);cases f with
  | next =>
   obtain ⟨σ3,H3,I3,n3⟩:=q3;obtain ⟨m',hm,w3⟩:=hN σ3 H3 n3;exact ⟨m',hm,σ3,H3,I3,w3⟩
  | cont =>
   obtain ⟨σ3,H3,I3,n3⟩:=q3;obtain ⟨m',hm,w3⟩:=hN σ3 H3 n3;exact ⟨m',hm,σ3,H3,I3,w3⟩
  | brk=>exact q3
  | ret v=>exact q3
 | false =>
  rw [Im IE];exact Ko ⟨σ1,H2,I2,q2⟩
end
structure It where
 go:Nat->Hp->Prop
 yld:Nat->Hp->V->Hp->Prop
 stop:Nat->Hp->Prop
def wX (X:Cx) (pins:List (Addr×Obj)) (H:Hp) (b:Addr):Prop :=
 H b=none/\b≠X.env.locals/\b ∉ X.fs/\(b∈X.ex\/X.s₀.heap.objs.size<=b)/\(∀ x c,X.env.cells.lookup x=some c->c≠b)/\∀ p∈X.pn++pins,p.1≠b
theorem Inv.Dt {X:Cx} {pins:List (Addr×Obj)} {σ:St} {H H':Hp} {s:Shared} {b:Addr} (I:Inv X pins σ H s) (hb:s.heap.objs.size<=b) (hn:H' b=none):wX X pins H' b:=by
 refine ⟨hn,Nat.ne_of_gt (II I.lt hb),I.A6 hb,.inr (IY I.sz hb),fun x c e z=>?_,fun p hp z=>?_⟩
 ·obtain ⟨v,q⟩:=I.cell x c e;exact absurd (II q.lt (by rw [z];exact hb)) (Jo _)
 ·exact absurd (II (IF (I.pin p hp).1) (by rw [z];exact hb)) (Jo _)
structure Turn (P:Program) (w:World) (K:Fg) (tg:Expr) (J:It) (fp:List Addr) (it:Addr) (tn:Nat->Heap->Prop):Prop where
 mem:it∈fp
 obj:∀ i h,tn i h->∀ b∈fp,∃ o,h.get? b=some o/\∀ v,o.data≠.cell v
 keep:∀ i h h',tn i h->(∀ b∈fp,∀ o,h.get? b=some o->h'.get? b=some o)->tn i h'
 item:∀ (X:Cx),X.prog=P->X.w=w->X.K=K->X.calm=true->∀ (i:Nat) (pins:List (Addr×Obj)) (s:Shared) (σ:St) (H:Hp) (E:Value->Shared->Prop),Inv X pins σ H s->(∀ b∈fp,wX X pins H b)->tn i s.heap->J.go i H ->
  wpAny (model P w) X.A (pyNext (.ref it)) (fun r s1=>∃ u,r=some u /\
   wpAny (model P w) X.A (letOwnedTupleGo tg (.ref it) u) (fun _ s2=>∃ x H',Inv X pins σ H' s2/\RelV x u/\J.yld i H x H'/\tn (i+1) s2.heap/\∀ b∈fp,H' b=none) E s1) E s
 done:∀ (X:Cx),X.prog=P->X.w=w->X.K=K->X.calm=true->∀ (i:Nat) (pins:List (Addr×Obj)) (s:Shared) (σ:St) (H:Hp) (E:Value->Shared->Prop),Inv X pins σ H s->(∀ b∈fp,wX X pins H b)->tn i s.heap->J.stop i H ->
  wpAny (model P w) X.A (pyNext (.ref it)) (fun r s1=>r=none/\Inv X pins σ H s1) E s
 self:∀ (A:Around) (i:Nat) (s:Shared) (Q:Value->Shared->Prop) (E:Value->Shared->Prop),tn i s.heap->Q (.ref it) s->wpAny (model P w) A (pyIter (.ref it)) Q E s
abbrev TI:=St->Hp->(It->Hp->Prop)->Prop
def PIE (X:Cx) (pins:List (Addr×Obj)) (σ:St) (tg:Expr) (R:It->Hp->Prop) (itv:Value) (s2:Shared):Prop :=
 ∃ (it:Addr) (fp:List Addr) (tn:Nat->Heap->Prop) (J:It) (H':Hp),itv=.ref it/\Inv X pins σ H' s2/\Turn X.prog X.w X.K tg J fp it tn/\tn 0 s2.heap/\(∀ b∈fp,wX X pins H' b)/\R J H'
def PI (X:Cx) (tg iter:Expr) (wi:TI):Prop :=
 ∀ (pins:List (Addr×Obj)) (s:Shared) (σ:St) (H:Hp) (R:It->Hp->Prop),Inv X pins σ H s->wi σ H R ->
  wpAny (model X.prog X.w) X.A (eval iter X.env) (fun v s1=>wpAny (model X.prog X.w) X.A (pyIter v) (PIE X pins σ tg R) X.xe s1) X.xe s
theorem yE {M:Model} {A:Around} {E:Value->Shared->Prop} {s:Shared} {tg:Expr} {it:Addr} {u:Value} {o:Obj} {n:String} {vs:Array Value} {Q:Unit->Shared->Prop} (ho:s.heap.get? it=some o) (hc:o.cls=.type n) (hd:o.data=.fields vs)
    (hn:["enumerate", "zip", "dict_itemiterator", "dict_reverseitemiterator", "odict_iterator", "itertools.zip_longest", "itertools.pairwise"].contains n=false) (hQ:Q () s):wpAny M A (letOwnedTupleGo tg (.ref it) u) Q E s:=by
  unfold letOwnedTupleGo;cases tg <;> first
    | exact Il hQ
    | (cases u <;> first
        | exact Il hQ
        | (refine Ib (wpAny_load ho ?_)
           rw [hc,hd];show wpAny M A (if (["enumerate", "zip", "dict_itemiterator", "dict_reverseitemiterator", "odict_iterator", "itertools.zip_longest", "itertools.pairwise"].contains n&&vs[0]?==some (rawInt _))=true then _ else _) Q E s;rw [Im (by intro h;rw [hn,Bool.false_and] at h;cases h)]
           exact Il hQ))
def Itl (K:Fg) (a:Addr):It :=
 ⟨fun i H=>∃ xs x,SqL K H a xs/\xs[i]?=some x,fun i H x H'=>H'=H/\∀ xs,SqL K H a xs->xs[i]?=some x,fun i H=>∃ xs,SqL K H a xs/\xs.length<=i⟩
def Itt (K:Fg) (a:Addr):It :=
 ⟨fun i H=>∃ xs x,SqT K H a xs/\xs[i]?=some x,fun i H x H'=>H'=H/\∀ xs,SqT K H a xs->xs[i]?=some x,fun i H=>∃ xs,SqT K H a xs/\xs.length<=i⟩
def Itr (lo:Int) (n:Nat):It:=⟨fun i _=>i < n,fun i H x H'=>H'=H/\x=.int (lo+i),fun i _=>n<=i⟩
theorem uB {P:Program} {w:World} {K:Fg} {tg:Expr} (a it:Addr):Turn P w K tg (Itl K a) [it] it (fun i h=>h.IsListIter it a i) where
 mem:=by simp
 obj:=fun i h st b hb=>by
  have e:b=it:=by simpa using hb
  subst e;obtain ⟨o,e,c,d⟩:=st;exact ⟨o,e,fun v z=>by rw [d] at z;cases z⟩
 keep:=fun i h h' st k=>st.at fun o e=>k it (by simp) o e
 item:=by
  intro X hP hw hK hc i pins s σ H E I hf st hg;subst hP hw hK;obtain ⟨xs,x,hq,hx⟩:=hg;obtain ⟨its,rv,p,hz⟩:=I.list hq;obtain ⟨u,hu,ru⟩:=rv.get hx;obtain ⟨f0,f1,f2,f3,f4,f5⟩:=hf it (by simp);refine wpAny_pyNext_list_item st p.isList (x:=u) (by simpa using hu) fun h' st' sb=>?_;have I1:Inv X pins σ H { s with heap:=h' }:=I.turned (t':=s.toks) (fun b o hb e=>(sb.2 b hb).trans e) f0 f1 f3 f4 f5;obtain ⟨o,e,c,d⟩:=id st';exact ⟨u,rfl,yE (s:={ s with heap:=h' }) e c d (by decide) ⟨x,H,I1,ru,⟨rfl,fun ys hy=>by rw [I.vG hy hq];exact hx⟩,st',fun b hb=>(hf b hb).1⟩⟩
 done:=by
  intro X hP hw hK hc i pins s σ H E I hf st hg;subst hP hw hK;obtain ⟨xs,hq,hx⟩:=hg;obtain ⟨its,rv,p,hz⟩:=I.list hq;obtain ⟨f0,f1,f2,f3,f4,f5⟩:=hf it (by simp);have hl:=rv.length;exact wpAny_pyNext_list_end (I.ok.hd hc) st p.isList (by simp;omega) fun h' eb=>⟨rfl,I.turned (t':=s.toks) (fun b o hb e=>eb b o hb e) f0 f1 f3 f4 f5⟩
 self:=fun _ _ _ _ _ st h=>wpAny_pyIter_listiter st h
theorem qB {P:Program} {w:World} {K:Fg} {tg:Expr} (a it:Addr):Turn P w K tg (Itt K a) [it] it (fun i h=>h.IsTupleIter it a i) where
 mem:=by simp
 obj:=fun i h st b hb=>by
  have e:b=it:=by simpa using hb
  subst e;obtain ⟨o,e,c,d⟩:=st;exact ⟨o,e,fun v z=>by rw [d] at z;cases z⟩
 keep:=fun i h h' st k=>st.at fun o e=>k it (by simp) o e
 item:=by
  intro X hP hw hK hc i pins s σ H E I hf st hg;subst hP hw hK;obtain ⟨xs,x,hq,hx⟩:=hg;obtain ⟨its,rv,p,hz⟩:=I.tuple hq;obtain ⟨u,hu,ru⟩:=rv.get hx;obtain ⟨f0,f1,f2,f3,f4,f5⟩:=hf it (by simp);refine wpAny_pyNext_tuple_item st (show s.heap.IsTuple a its.toArray from p) (x:=u) (by simpa using hu) fun h' st' sb=>?_;have I1:Inv X pins σ H { s with heap:=h' }:=I.turned (t':=s.toks) (fun b o hb e=>(sb.2 b hb).trans e) f0 f1 f3 f4 f5;obtain ⟨o,e,c,d⟩:=id st';exact ⟨u,rfl,yE (s:={ s with heap:=h' }) e c d (by decide) ⟨x,H,I1,ru,⟨rfl,fun ys hy=>by rw [I.uP hy hq];exact hx⟩,st',fun b hb=>(hf b hb).1⟩⟩
 done:=by
  intro X hP hw hK hc i pins s σ H E I hf st hg;subst hP hw hK;obtain ⟨xs,hq,hx⟩:=hg;obtain ⟨its,rv,p,hz⟩:=I.tuple hq;obtain ⟨f0,f1,f2,f3,f4,f5⟩:=hf it (by simp);have hl:=rv.length;exact wpAny_pyNext_tuple_end (I.ok.hd hc) st (show s.heap.IsTuple a its.toArray from p) (by simp;omega) fun h' eb=>⟨rfl,I.turned (t':=s.toks) (fun b o hb e=>eb b o hb e) f0 f1 f3 f4 f5⟩
 self:=fun _ _ _ _ _ st h=>wpAny_pyIter_tupleiter st h
theorem qe {P:Program} {w:World} {K:Fg} {tg:Expr} (it:Addr) (lo:Int) (n:Nat):Turn P w K tg (Itr lo n) [it] it (fun i h=>IsRangeIter h it (lo+(i:Nat)*1) ((n:Int) - (i:Nat)) 1) where
 mem:=by simp
 obj:=fun i h st b hb=>by
  have e:b=it:=by simpa using hb
  subst e
  exact ⟨_,st,fun v z=>by
   have z':Data.fields _=Data.cell v:=z
   cases z'⟩
 keep:=fun i h h' st k=>k it (by simp) _ st
 item:=by
  intro X hP hw hK hc i pins s σ H E I hf st hg;subst hP hw hK;obtain ⟨f0,f1,f2,f3,f4,f5⟩:=hf it (by simp);have W:=Walks.range (prog:=X.prog) (w:=X.w) (I.ok.hd hc) it lo 1 n;refine W.item i s _ _ hg st fun v h' tk hv st' kk=>?_;obtain ⟨t,rfl⟩:=hv;have I1:Inv X pins σ H { s with heap:=h',toks:=tk }:=I.turned (fun b o hb e=>kk b o (by simpa using hb) e) f0 f1 f3 f4 f5;refine ⟨_,rfl,yE (s:={ s with heap:=h',toks:=tk }) (n := "range_iterator") st' rfl rfl (by decide) ⟨.int (lo+i),H,I1,⟨t,?_⟩,⟨rfl,rfl⟩,st',fun b hb=>(hf b hb).1⟩⟩;rw [Int.mul_one]
 done:=by
  intro X hP hw hK hc i pins s σ H E I hf st hg;subst hP hw hK;obtain ⟨f0,f1,f2,f3,f4,f5⟩:=hf it (by simp);exact wpAny_pyNext_range_end (I.ok.hd hc) st (by have:n<=i:=hg;omega) fun h' eb=>⟨rfl,I.turned (t':=s.toks) (fun b o hb e=>eb b o hb e) f0 f1 f3 f4 f5⟩
 self:=fun _ _ _ _ _ st h=>wpAny_pyIter_rangeiter st h
end L2
namespace L2
open PySem PySem.Spec PyProof.Rows
section
variable {X:Cx} {tg:Expr}
def sJ (K:Fg) (tl:TE):TI:=fun σ H R=>tl σ H fun x H1=>∃ a,x=.ref a/\(∃ xs,SqL K H1 a xs)/\R (Itl K a) H1
def Gg (K:Fg) (tl:TE):TI:=fun σ H R=>tl σ H fun x H1=>∃ a,x=.ref a/\(∃ xs,SqT K H1 a xs)/\R (Itt K a) H1
theorem uZ {l:Expr} {tl:TE} (hl:PE X l tl):PI X tg l (sJ X.K tl):=by
 intro pins s σ H R I h;refine thn (hl pins s σ H _ I h) fun v s1 ⟨x,H1,I1,r1,q1⟩=>?_;obtain ⟨a,e,⟨xs,hq⟩,q⟩:=q1;subst e;cases r1;obtain ⟨its,rv,p,hz⟩:=I1.list hq;refine wpAny_pyIter_list p.isList ?_;refine ⟨s1.heap.objs.size,[s1.heap.objs.size],_,_,H1,rfl,I1.kept (t':=s1.toks) fun b o e=>Iw _ e,uB a _,⟨_,IX _ rfl,rfl,rfl⟩,fun b hb=>?_,q⟩;have e:b=s1.heap.objs.size:=by simpa using hb
 subst e;exact I1.Dt (Iv _) (I1.hok.fresh (Iv _))
theorem z0 {l:Expr} {tl:TE} (hl:PE X l tl):PI X tg l (Gg X.K tl):=by
 intro pins s σ H R I h;refine thn (hl pins s σ H _ I h) fun v s1 ⟨x,H1,I1,r1,q1⟩=>?_;obtain ⟨a,e,⟨xs,hq⟩,q⟩:=q1;subst e;cases r1;obtain ⟨its,rv,p,hz⟩:=I1.tuple hq;refine wpAny_pyIter_tuple (show s1.heap.IsTuple a its.toArray from p) ?_;refine ⟨s1.heap.objs.size,[s1.heap.objs.size],_,_,H1,rfl,I1.kept (t':=s1.toks) fun b o e=>Iw _ e,qB a _,⟨_,IX _ rfl,rfl,rfl⟩,fun b hb=>?_,q⟩;have e:b=s1.heap.objs.size:=by simpa using hb
 subst e;exact I1.Dt (Iv _) (I1.hok.fresh (Iv _))
theorem wC {pins:List (Addr×Obj)} {σ:St} {H:Hp} {s:Shared} {R:It->Hp->Prop} {E:Value->Shared->Prop} {lo hi:Int} {t u v:Tok} {tk:Nat} (I:Inv X pins σ H s) (h1:-(2 ^ 62)<=lo) (h2:lo < 2 ^ 62) (h3:-(2 ^ 62)<=hi) (h4:hi < 2 ^ 62)
  (q:R (Itr lo (hi - lo).toNat) H):wpAny (model X.prog X.w) X.A (pyIter (.ref s.heap.objs.size)) (PIE X pins σ tg R) E { s with heap:=s.heap.push { cls:=.type "range", data:=.fields #[.int lo t,.int hi u,.int 1 v] },toks:=tk }:=by
 refine wpAny_pyIter_range (IsRange.new ..) (small_one h1 h2 h3 h4) ?_;have I1:Inv X pins σ H { s with heap:=s.heap.push { cls:=.type "range", data:=.fields #[.int lo t,.int hi u,.int 1 v] },toks:=tk }:=I.kept fun b o e=>Iw _ e
 refine ⟨(s.heap.push { cls:=.type "range", data:=.fields #[.int lo t,.int hi u,.int 1 v] }).objs.size,[(s.heap.push { cls:=.type "range", data:=.fields #[.int lo t,.int hi u,.int 1 v] }).objs.size],_,_,H,rfl,
  I1.kept (t':=tk) fun b o e=>Iw _ e,qe _ lo (hi - lo).toNat,?_,fun b hb=>?_,q⟩
 ·have e1:lo+((0:Nat):Int)*1=lo:=by simp
  have e2:(((hi - lo).toNat:Nat):Int) - ((0:Nat):Int)=Builtin.Range.rangeSize lo hi 1:=by rw [rangeSize_one];split <;> omega
  show IsRangeIter _ _ (lo+((0:Nat):Int)*1) ((((hi - lo).toNat:Nat):Int) - ((0:Nat):Int)) 1;rw [e1,e2];exact IX _ rfl
 ·have e:b=(s.heap.push { cls:=.type "range", data:=.fields #[.int lo t,.int hi u,.int 1 v] }).objs.size:=by simpa using hb
  subst e;exact I1.Dt (Iv _) (I1.hok.fresh (Iv _))
def oa (ta:TA):TI:=fun σ H R=>ta σ H fun vs H1=>∃ j:Int,vs=[.int j]/\-(2 ^ 62)<=j/\j < 2 ^ 62/\R (Itr 0 j.toNat) H1
def ER (ta:TA):TI:=fun σ H R=>ta σ H fun vs H1=>∃ i j:Int,vs=[.int i,.int j]/\(-(2 ^ 62)<=i/\i < 2 ^ 62/\-(2 ^ 62)<=j/\j < 2 ^ 62)/\R (Itr i (j - i).toNat) H1
theorem tG {a:Expr} {ta:TA} {p pos:Pos} (hg:Gl X "range") (hm:X.mg "range" = none) (ha:PA X [a] ta) (hs:starEach [a] X.env=[(false,eval a X.env)]:=by rfl):PI X tg (.Call (.Name "range" p) [a] [] pos) (oa ta):=by
 intro pins s σ H R I h;refine Call_ (lK I hg hm boot_range (PyProof.Rows.callWith_type1 (thn (ha pos pins s σ H _ I h) fun us s1 ⟨vs,H1,I1,r1,q1⟩=>?_) hs rfl));obtain ⟨j,e,q1,q2,q⟩:=q1;subst e;cases r1 with
 | cons r rr =>
  cases rr;obtain ⟨t,rfl⟩:=r;exact call_range_1 (wC I1 (by omega) (by omega) q1 q2 (by simpa using q))
def zW (wi:TI) (g:TG) (tb:TS):TS:=fun D σ H=>wi σ H fun J H1=>∃ W:Nat->Nat->St->Hp->Prop,(∃ m,W 0 m σ H1)/\∀ i m σ H,W i m σ H ->
 (J.stop i H/\D.nx σ H)\/(J.go i H/\∃ N:St->Hp->Prop,(∀ σ' H',N σ' H'->∃ m',m' < m/\W (i+1) m' σ' H')/\∀ x H',J.yld i H x H'->g x σ H' fun σ2 H2=>tb { D with nx:=N,ct:=N,bk:=D.nx } σ2 H2)
def mK (fp:List Addr) (h:Heap):List (Addr×Obj):=fp.filterMap fun b=>(h.get? b).map fun o=>(b,o)
theorem e7 {fp:List Addr} {h:Heap} {b:Addr} {o:Obj} (hb:b∈fp) (e:h.get? b=some o):(b,o)∈mK fp h:=List.mem_filterMap.mpr ⟨b,hb,by rw [e];rfl⟩
theorem tw {fp:List Addr} {h:Heap} {p:Addr×Obj} (hp:p∈mK fp h):p.1∈fp/\h.get? p.1=some p.2:=by
 obtain ⟨b,hb,e⟩:=List.mem_filterMap.mp hp;cases q:h.get? b with
 | none=>rw [q] at e;cases e
 | some o =>
  rw [q] at e;have e':(b,o)=p:=Jk e;subst e';exact ⟨hb,q⟩
theorem Inv.pinned {pins:List (Addr×Obj)} {σ:St} {H:Hp} {s:Shared} {fp:List Addr} (I:Inv X pins σ H s) (hf:∀ b∈fp,wX X pins H b) (ho:∀ b∈fp,∃ o,s.heap.get? b=some o/\∀ v,o.data≠.cell v):Inv X (pins++mK fp s.heap) σ H s :=
 I.cP fun p hp=>(Ja.mp hp).elim (fun z=>I.pin p (Ij _ z)) fun z=>by
  obtain ⟨hb,e⟩:=tw z;obtain ⟨f0,f1,f2,_⟩:=hf p.1 hb;obtain ⟨o,e',d⟩:=ho p.1 hb;rw [e] at e';cases e';exact ⟨e,f0,f1,f2,d⟩
theorem Inv.iV {pins pl:List (Addr×Obj)} {σ:St} {H:Hp} {s:Shared} (I:Inv X (pins++pl) σ H s):Inv X pins σ H s:=I.cP fun p hp=>I.pin p (Ij _ (IL _ hp))
theorem Ah {iter:Expr} {body:List Stmt} {wi:TI} {g:TG} {tb:TS} {pos:Pos} (hp:PassesOwn (model X.prog X.w) X.A X.env X.xe) (hc:X.calm=true) (hi:PI X tg iter wi) (hg:PG X tg g) (hb:PSs X body tb)
  (hs:∀ x,foldedSetIterable iter X.env x=pure x:=by intro _;rfl):PS X (.For tg iter body [] pos) (zW wi g tb):=by
 intro pins s σ H D I h;refine wpAny_For (thn (hi pins s σ H _ I h) fun v s1 h1=>thn h1 fun itv s2 h2=>?_) hs;obtain ⟨it,fp,tn,J,H2,e,I2,T,st2,f2,W,⟨m0,w0⟩,turn⟩:=h2;subst e;have stat:∀ {H':Hp},(∀ b∈fp,H' b=none)->∀ b∈fp,wX X pins H' b:=fun hn b hb=>⟨hn b hb,(f2 b hb).2⟩;refine codeAny_forLoop_any (fun n s'=>∃ i σ' H',Inv X pins σ' H' s'/\tn i s'.heap/\(∀ b∈fp,H' b=none)/\W i n σ' H') ?_ m0 ⟨0,σ,H2,I2,st2,fun b hb=>(f2 b hb).1,w0⟩;rintro n s3 ⟨i,σ3,H3,I3,st3,fr3,w3⟩;rcases turn i n σ3 H3 w3 with ⟨stop,qn⟩ | ⟨go,N,hN,step⟩
 ·refine Km hp (thn (T.done X rfl rfl rfl hc i pins s3 σ3 H3 X.xe I3 (stat fr3) st3 stop) fun r s4 ⟨hr,I4⟩=>?_);subst hr;exact Ko ⟨σ3,H3,I4,qn⟩
 ·refine Km hp (thn (T.item X rfl rfl rfl hc i pins s3 σ3 H3 X.xe I3 (stat fr3) st3 go) fun r s4 ⟨u,hr,h4⟩=>?_);subst hr;refine Km hp (thn h4 fun _ s5 ⟨x,H5,I5,r5,y5,st5,fr5⟩=>?_);have I5':=I5.pinned (stat fr5) (T.obj _ _ st5);refine Km hp (thn (hg _ s5 σ3 H5 x u _ I5' r5 (step x H5 y5)) fun _ s6 ⟨σ6,H6,I6,q6⟩=>?_);refine Km hp (thn (hb _ s6 σ6 H6 _ I6 q6) fun f s7 q7=>?_);have again:∀ {σ7:St} {H7:Hp},Inv X (pins++mK fp s5.heap) σ7 H7 s7->N σ7 H7->∃ m,m < n/\∃ i σ' H',Inv X pins σ' H' s7/\tn i s7.heap/\(∀ b∈fp,H' b=none)/\W i m σ' H':=fun {σ7 H7} I7 n7=>by
   obtain ⟨m',hm,w7⟩:=hN σ7 H7 n7;refine ⟨m',hm,i+1,σ7,H7,I7.iV,T.keep _ _ _ st5 fun b hb o e=>(I7.pin (b,o) (Ij _ (Ij _ (e7 hb e)))).1,fun b hb=>?_,w7⟩;obtain ⟨o,e,d⟩:=T.obj _ _ st5 b hb;exact (I7.pin (b,o) (Ij _ (Ij _ (e7 hb e)))).2.1
  cases f with
  | next=>obtain ⟨σ7,H7,I7,n7⟩:=q7;exact again I7 n7
  | cont=>obtain ⟨σ7,H7,I7,n7⟩:=q7;exact again I7 n7
  | brk=>obtain ⟨σ7,H7,I7,q7⟩:=q7;exact ⟨σ7,H7,I7.iV,q7⟩
  | ret v=>obtain ⟨x7,σ7,H7,I7,r7,q7⟩:=q7;exact ⟨x7,σ7,H7,I7.iV,r7,q7⟩
end
end L2
namespace L2
open PySem PySem.Spec PyProof.Rows
abbrev R2:=V->V->Hp->VK->Prop
def OpR (X:Cx) (f:Value->Value->Sem Value) (r:R2):Prop :=
 ∀ (pins:List (Addr×Obj)) (s:Shared) (σ:St) (H:Hp) (x y:V) (v u:Value) (Q:VK),Inv X pins σ H s->RelV x v->RelV y u->r x y H Q ->
  wpAny (model X.prog X.w) X.A (f v u) (EP X pins σ Q) X.xe s
def UnR (X:Cx) (f:Value->Sem Value) (r:V->Hp->VK->Prop):Prop :=
 ∀ (pins:List (Addr×Obj)) (s:Shared) (σ:St) (H:Hp) (x:V) (v:Value) (Q:VK),Inv X pins σ H s->RelV x v->r x H Q ->
  wpAny (model X.prog X.w) X.A (f v) (EP X pins σ Q) X.xe s
def bM (X:Cx) (f:Value) (r:List V->Hp->VK->Prop):Prop :=
 ∀ (pins:List (Addr×Obj)) (s:Shared) (σ:St) (H:Hp) (xs:List V) (us:List Value) (Q:VK),Inv X pins σ H s->Vals xs us->r xs H Q ->
  wpAny (model X.prog X.w) X.A (call f us) (EP X pins σ Q) X.xe s
def He (X:Cx) (r:V->Hp->(Bool->Hp->Prop)->Prop):Prop :=
 ∀ (pins:List (Addr×Obj)) (s:Shared) (σ:St) (H:Hp) (x:V) (v:Value) (Q:Bool->Hp->Prop),Inv X pins σ H s->RelV x v->r x H Q ->
  wpAny (model X.prog X.w) X.A (truthy v) (TP X pins σ Q) X.xe s
def tOp (r:R2) (ta tb:TE):TE:=fun σ H Q=>ta σ H fun x H1=>tb σ H1 fun y H2=>r x y H2 Q
def tUn (r:V->Hp->VK->Prop) (ta:TE):TE:=fun σ H Q=>ta σ H fun x H1=>r x H1 Q
def rI (C:Int->Int->Prop) (g:Int->Int->V):R2:=fun x y H Q=>∃ i j,x=.int i/\y=.int j/\C i j/\Q (g i j) H
def rI0 (g:Int->Int->V):R2:=fun x y H Q=>∃ i j,x=.int i/\y=.int j/\Q (g i j) H
def rU (g:Int->V):V->Hp->VK->Prop:=fun x H Q=>∃ i,x=.int i/\Q (g i) H
section
variable {X:Cx} {a b c:Expr} {ta tb tc:TE} {pos:Pos}
theorem FN (ha:PE X a ta) (hb:PE X b tb) {pins:List (Addr×Obj)} {s:Shared} {σ:St} {H:Hp} {R:V->V->Hp->Prop} (I:Inv X pins σ H s)
  (h:ta σ H fun x H1=>tb σ H1 fun y H2=>R x y H2) {Q:Value->Shared->Prop} {f:Value->Value->Sem Value}
  (hf:∀ v u s2 x y H2,Inv X pins σ H2 s2->RelV x v->RelV y u->R x y H2->wpAny (model X.prog X.w) X.A (f v u) Q X.xe s2) :
  wpAny (model X.prog X.w) X.A (eval a X.env) (fun v s₁=>wpAny (model X.prog X.w) X.A (eval b X.env) (fun u s₂=>wpAny (model X.prog X.w) X.A (f v u) Q X.xe s₂) X.xe s₁) X.xe s:=by
 refine thn (ha pins s σ H _ I h) fun v s1 ⟨x,H1,I1,r1,q1⟩=>?_;refine thn (hb pins s1 σ H1 _ I1 q1) fun u s2 ⟨y,H2,I2,r2,q2⟩=>?_;exact hf v u s2 x y H2 I2 r1 r2 q2
theorem Ew {op:Operator} {r:R2} (ho:OpR X (binaryOp op) r) (ha:PE X a ta) (hb:PE X b tb):PE X (.BinOp a op b pos) (tOp r ta tb):=by
 intro pins s σ H Q I h;exact wpAny_BinOp (FN ha hb I h fun v u s2 x y H2 I2 rx ry q=>ho pins s2 σ H2 x y v u Q I2 rx ry q)
theorem Er {op:UnaryOp} {r:V->Hp->VK->Prop} (ho:UnR X (unaryOp op) r) (ha:PE X a ta):PE X (.UnaryOp op a pos) (tUn r ta):=by
 intro pins s σ H Q I h;exact UnaryOp_ (thn (ha pins s σ H _ I h) fun v s1 ⟨x,H1,I1,r1,q1⟩=>ho pins s1 σ H1 x v Q I1 r1 q1)
theorem opI {f:Value->Value->Sem Value} {C:Int->Int->Prop} {g:Int->Int->Int}
  (rule:∀ (i j:Int) (t u:Tok) (s:Shared) (Q:Value->Shared->Prop) (E:Value->Shared->Prop),C i j->Q (.int (g i j) s.toks) { s with toks:=s.toks+1 }->wpAny (model X.prog X.w) X.A (f (.int i t) (.int j u)) Q E s) :
  OpR X f (rI C fun i j=>.int (g i j)):=by
 intro pins s σ H x y v u Q I rx ry h;obtain ⟨i,j,rfl,rfl,hc,q⟩:=h;obtain ⟨t,rfl⟩:=rx;obtain ⟨t',rfl⟩:=ry;exact rule i j t t' s _ _ hc ⟨.int (g i j),H,I.tok _,⟨_,rfl⟩,q⟩
theorem G1 {f:Value->Value->Sem Value} {g:Int->Int->Int}
  (rule:∀ (i j:Int) (t u:Tok) (s:Shared) (Q:Value->Shared->Prop) (E:Value->Shared->Prop),Q (.int (g i j) s.toks) { s with toks:=s.toks+1 }->wpAny (model X.prog X.w) X.A (f (.int i t) (.int j u)) Q E s) :
  OpR X f (rI0 fun i j=>.int (g i j)):=by
 intro pins s σ H x y v u Q I rx ry h;obtain ⟨i,j,rfl,rfl,q⟩:=h;obtain ⟨t,rfl⟩:=rx;obtain ⟨t',rfl⟩:=ry;exact rule i j t t' s _ _ ⟨.int (g i j),H,I.tok _,⟨_,rfl⟩,q⟩
theorem DD {f:Value->Value->Sem Value} {g:Int->Int->Bool}
  (rule:∀ (i j:Int) (t u:Tok) (s:Shared) (Q:Value->Shared->Prop) (E:Value->Shared->Prop),Q (.bool (g i j)) s->wpAny (model X.prog X.w) X.A (f (.int i t) (.int j u)) Q E s) :
  OpR X f (rI0 fun i j=>.bl (g i j)):=by
 intro pins s σ H x y v u Q I rx ry h;obtain ⟨i,j,rfl,rfl,q⟩:=h;obtain ⟨t,rfl⟩:=rx;obtain ⟨t',rfl⟩:=ry;exact rule i j t t' s _ _ ⟨.bl (g i j),H,I,rfl,q⟩
def GN (i j:Int):Prop:=0<=j/\j<=1000000/\i.natAbs < 2 ^ 64
def BR (i j:Int):Prop:=(-(2 ^ 64) < i/\i < 2 ^ 64)\/(-(2 ^ 64) < j/\j < 2 ^ 64)
theorem BR.ok {i j:Int} (h:BR i j):IntMulOk i j:=by
 rcases h with ⟨h1,h2⟩ | ⟨h1,h2⟩
 ·exact .of_left (intBits_le_64 h1 h2)
 ·exact .of_right (intBits_le_64 h1 h2)
theorem Cv:OpR X (binaryOp .Add) (rI0 fun i j=>.int (i+j)):=G1 fun _ _ _ _ _ _ _ q=>add_int q
theorem C1:OpR X (binaryOp .Sub) (rI0 fun i j=>.int (i - j)):=G1 fun _ _ _ _ _ _ _ q=>sub_int q
theorem Ae:OpR X (binaryOp .Mult) (rI BR fun i j=>.int (i*j)):=opI fun _ _ _ _ _ _ _ hc q=>mul_int q hc.ok
theorem Cc:OpR X (binaryOp .Mod) (rI (fun _ j=>0 < j) fun i j=>.int (i % j)):=opI fun i j _ _ _ _ _ hc q=>by
 have h1:(0:Int) < j:=hc;exact mod_int' (by omega) (by rw [Int.fmod_eq_emod_of_nonneg i (by omega)];exact q)
theorem z6:OpR X (binaryOp .Pow) (rI GN fun i j=>.int (i ^ j.toNat)):=opI fun _ _ _ _ _ _ _ hc q=>pow_int_small hc.1 hc.2.1 hc.2.2 q
theorem unI {f:Value->Sem Value} {g:Int->Int}
  (rule:∀ (i:Int) (t:Tok) (s:Shared) (Q:Value->Shared->Prop) (E:Value->Shared->Prop),Q (.int (g i) s.toks) { s with toks:=s.toks+1 }->wpAny (model X.prog X.w) X.A (f (.int i t)) Q E s) :
  UnR X f (rU fun i=>.int (g i)):=by
 intro pins s σ H x v Q I rx h;obtain ⟨i,rfl,q⟩:=h;obtain ⟨t,rfl⟩:=rx;exact rule i t s _ _ ⟨.int (g i),H,I.tok _,⟨_,rfl⟩,q⟩
theorem Dp:UnR X (unaryOp .USub) (rU fun i=>.int (-i)):=unI fun _ _ _ _ _ q=>neg_int q
end
section
variable {X:Cx} {a b c:Expr} {ta tb tc:TE} {pos:Pos}
theorem C9 {pins:List (Addr×Obj)} {σ:St} {H:Hp} {s:Shared} {Q:VK} {k k':Bool} (I:Inv X pins σ H s) (q:Q (.bl k) H) (e:k=k'):EP X pins σ Q (.bool k') s:=by
 subst e;exact ⟨.bl k,H,I,rfl,q⟩
theorem Fx:OpR X (compareOp .Lt) (rI0 fun i j=>.bl (decide (i < j))):=DD fun _ _ _ _ _ _ _ q=>lt_int q
theorem EO:OpR X (compareOp .LtE) (rI0 fun i j=>.bl (decide (i<=j))):=DD fun _ _ _ _ _ _ _ q=>le_int q
theorem Eg:OpR X (compareOp .Gt) (rI0 fun i j=>.bl (decide (j < i))):=DD fun _ _ _ _ _ _ _ q=>gt_int q
theorem Ft:OpR X (compareOp .GtE) (rI0 fun i j=>.bl (decide (j<=i))):=DD fun _ _ _ _ _ _ _ q=>ge_int q
theorem r8:OpR X (compareOp .Lt) (fun x y H Q=>∃ i j,x=.str i/\y=.str j/\Q (.bl (decide (i.cps.toList < j.cps.toList))) H):=by
 intro pins s σ H x y v u Q I rx ry h;obtain ⟨i,j,rfl,rfl,q⟩:=h;obtain ⟨t,rfl⟩:=rx;obtain ⟨t',rfl⟩:=ry;exact lt_str (C9 I q rfl)
theorem cp (b:Expr) {op:CmpOp} (h:op≠.In:=by decide) (h2:op≠.NotIn:=by decide):behindInMarks op b=false:=by
 have e1:(op==CmpOp.In)=false:=by cases op <;> first | rfl | exact absurd rfl h
 have e2:(op==CmpOp.NotIn)=false:=by cases op <;> first | rfl | exact absurd rfl h2
 cases b <;> simp [behindInMarks,e1,e2]
theorem yP {op:CmpOp} {r:R2} (ho:OpR X (compareOp op) r) (ha:PE X a ta) (hb:PE X b tb) (hm:behindInMarks op b=false):PE X (.Compare a [op] [b] pos) (tOp r ta tb):=by
 intro pins s σ H Q I h;exact wpAny_Compare1 (FN ha hb I h fun v u s2 x y H2 I2 rx ry q=>ho pins s2 σ H2 x y v u Q I2 rx ry q) hm
def dG (t:TE):TT:=fun σ H Q=>t σ H fun x H'=>∃ k,x=.bl k/\Q k H'
theorem xR {op:CmpOp} {r:R2} (ho:OpR X (compareOp op) r) (ha:PE X a ta) (hb:PE X b tb) (hm:behindInMarks op b=false):PT X (.Compare a [op] [b] pos) (dG (tOp r ta tb)):=by
 intro pins s σ H Q I h
 refine wpAny_isTrue_Compare1 (thn (ha pins s σ H _ I h) fun v s1 ⟨x,H1,I1,r1,q1⟩=>thn (hb pins s1 σ H1 _ I1 q1) fun u s2 ⟨y,H2,I2,r2,q2⟩ =>
  thn (ho pins s2 σ H2 x y v u _ I2 r1 r2 q2) fun c s3 ⟨z,H3,I3,r3,k,e,q3⟩=>?_) hm
 subst e;cases r3;exact Jv ⟨H3,I3,q3⟩
def iX (r r':R2) (ta tb tc:TE):TE:=fun σ H Q=>ta σ H fun x H1=>tb σ H1 fun y H2=>r x y H2 fun z H3=>∃ k,z=.bl k /\
 (if k=true then tc σ H3 fun w' H4=>r' y w' H4 Q else Q (.bl false) H3)
theorem vS {op op':CmpOp} {r r':R2} (ho:OpR X (compareOp op) r) (ho':OpR X (compareOp op') r') (ha:PE X a ta) (hb:PE X b tb) (hc:PE X c tc)
  (hm:lastMarks [op,op'] [b,c]=false:=by with_unfolding_all rfl):PE X (.Compare a [op,op'] [b,c] pos) (iX r r' ta tb tc):=by
 intro pins s σ H Q I h
 refine Compare_chain (thn (ha pins s σ H _ I h) fun v s1 ⟨x,H1,I1,r1,q1⟩=>chain_link (thn (hb pins s1 σ H1 _ I1 q1) fun u s2 ⟨y,H2,I2,r2,q2⟩ =>
  thn (ho pins s2 σ H2 x y v u _ I2 r1 r2 q2) fun d s3 ⟨z,H3,I3,r3,k,e,q3⟩=>?_)) hm
 subst e;cases r3;refine Jv ?_;cases k with
 | false=>exact ite_ff ⟨.bl false,H3,I3,rfl,q3⟩
 | true=>exact ite_tt (chain_last (thn (hc pins s3 σ H3 _ I3 q3) fun w' s4 ⟨z',H4,I4,r4,q4⟩=>ho' pins s4 σ H4 y z' u w' Q I4 r2 r4 q4))
theorem wt {op op':CmpOp} {r r':R2} (ho:OpR X (compareOp op) r) (ho':OpR X (compareOp op') r') (ha:PE X a ta) (hb:PE X b tb) (hc:PE X c tc)
  (hm:lastMarks [op,op'] [b,c]=false:=by with_unfolding_all rfl):PT X (.Compare a [op,op'] [b,c] pos) (dG (iX r r' ta tb tc)):=by
 intro pins s σ H Q I h
 refine isTrue_chain (thn (ha pins s σ H _ I h) fun v s1 ⟨x,H1,I1,r1,q1⟩=>test_link (thn (hb pins s1 σ H1 _ I1 q1) fun u s2 ⟨y,H2,I2,r2,q2⟩ =>
  thn (ho pins s2 σ H2 x y v u _ I2 r1 r2 q2) fun d s3 ⟨z,H3,I3,r3,k,e,q3⟩=>?_)) hm
 subst e;cases r3;refine Jv ?_;cases k with
 | false =>
  obtain ⟨k',e',q'⟩:=q3;cases e';exact ite_ff ⟨H3,I3,q'⟩
 | true =>
  refine ite_tt (test_last (thn (hc pins s3 σ H3 _ I3 q3) fun w' s4 ⟨z',H4,I4,r4,q4⟩=>thn (ho' pins s4 σ H4 y z' u w' _ I4 r2 r4 q4) fun d' s5 ⟨z2,H5,I5,r5,k2,e2,q5⟩=>?_));subst e2;cases r5;exact Jv ⟨H5,I5,q5⟩
def DJ (K:Fg) (x:V) (H:Hp) (k:Bool):Prop :=
 match x with
 | .non=>k=false
 | .bl b=>k=b
 | .int i=>k=(i != 0)
 | .str y=>y.length<=sizeLine/\k=((y.length:Int) != 0)
 | .byt y=>y.size<=sizeLine/\k=((y.size:Int) != 0)
 | .ref p=>(∃ xs,SqL K H p xs/\k=!xs.isEmpty)\/(∃ xs,SqT K H p xs/\k=!xs.isEmpty)\/∃ kvs,H p=some (.dK kvs)/\k=!kvs.isEmpty
 | _=>False
theorem qt {κ:Type} {kvs:List (κ×V)} {vs:List (κ×Value)} (r:KV kvs vs):(!vs.isEmpty)=!kvs.isEmpty:=by
 cases r <;> rfl
theorem kb {xs:List V} {its:List Value} (r:Vals xs its):(!its.toArray.isEmpty)=!xs.isEmpty:=by
 cases r <;> simp
theorem mS:(sizeLine:Nat) < 2 ^ 63:=by rw [JQ];decide
theorem GV:He X (fun x H Q=>∃ k,DJ X.K x H k/\Q k H):=by
 intro pins s σ H x v Q I rx h;obtain ⟨k,e,q⟩:=h;have hl:=mS;have hs:sizeLine=16777216:=JQ;cases x with
 | non =>
  cases rx;have e':k=false:=e;subst e';exact truthy_none ⟨H,I,q⟩
 | bl b =>
  cases rx;have e':k=b:=e;subst e';exact Jv ⟨H,I,q⟩
 | int i =>
  obtain ⟨t,rfl⟩:=rx;have e':k=(i != 0):=e;subst e';exact PySem.P.truthy_int ⟨H,I,q⟩
 | str y =>
  obtain ⟨t,rfl⟩:=rx;obtain ⟨hy,e'⟩:y.length<=sizeLine/\k=((y.length:Int) != 0):=e;subst e';exact PySem.P.truthy_str (by omega) ⟨H,I.tok _,q⟩
 | byt y =>
  obtain ⟨t,rfl⟩:=rx;obtain ⟨hy,e'⟩:y.size<=sizeLine/\k=((y.size:Int) != 0):=e;subst e';exact PySem.W.truthy_bytes (by omega) ⟨H,I.tok _,q⟩
 | ref p =>
  cases rx;have e':(∃ xs,SqL X.K H p xs/\k=!xs.isEmpty)\/(∃ xs,SqT X.K H p xs/\k=!xs.isEmpty)\/∃ kvs,H p=some (.dK kvs)/\k=!kvs.isEmpty:=e;rcases e' with ⟨xs,hx,e'⟩ | ⟨xs,hx,e'⟩ | ⟨kvs,hx,e'⟩
  ·subst e';obtain ⟨its,r,pl,hz⟩:=I.list hx;have hlen:=r.length;exact wpAny_truthy_list pl.isList (by simp only [Iy];omega) ⟨H,I.tok _,by rw [kb r];exact q⟩
  ·subst e';obtain ⟨its,r,pl,hz⟩:=I.tuple hx;have hlen:=r.length;exact truthy_tuple pl (by simp only [Iy];omega) ⟨H,I.tok _,by rw [kb r];exact q⟩
  ·subst e';obtain ⟨hz,hS,vs,r,m⟩:kvs.length<=sizeLine/\(p==sysModules)=false/\∃ vs,KV kvs vs/\s.heap.DictOf (bO X.prog X.w) p vs:=I.hok p _ hx;have hlen:kvs.length=vs.length:=Paired.length r;exact wpAny_truthy_dict hS m (by omega) ⟨H,I.tok _,by rw [qt r];exact q⟩
 | _=>exact (show False from e).elim
theorem qP:OpR X (binaryOp .Add) (fun x y H Q=>∃ i j,x=.str i/\y=.str j/\i.length+j.length<=sizeLine/\Q (.str (i++j)) H):=by
 intro pins s σ H x y v u Q I rx ry h;obtain ⟨i,j,rfl,rfl,hz,q⟩:=h;obtain ⟨t,rfl⟩:=rx;obtain ⟨t',rfl⟩:=ry;exact add_str (fun t' tk=>⟨.str (i++j),H,I.tok _,⟨_,rfl⟩,q⟩) hz
theorem vals1 {x:V} {us:List Value} (r:Vals [x] us):∃ u,us=[u]/\RelV x u:=by
 cases r with
 | cons r1 r2=>cases r2;exact ⟨_,rfl,r1⟩
theorem vals2 {x y:V} {us:List Value} (r:Vals [x,y] us):∃ u w',us=[u,w']/\RelV x u/\RelV y w':=by
 cases r with
 | cons r1 r2 =>
  cases r2 with
  | cons r3 r4=>cases r4;exact ⟨_,_,rfl,r1,r3⟩
theorem vm:bM X (.builtin "abs") (fun xs H Q=>∃ i,xs=[.int i]/\Q (.int (if i < 0 then -i else i)) H):=by
 intro pins s σ H xs us Q I r h;obtain ⟨i,rfl,q⟩:=h;obtain ⟨u,rfl,t,rfl⟩:=vals1 r;exact call_abs_int fun u tk=>⟨.int (if i < 0 then -i else i),H,I.tok _,⟨_,rfl⟩,q⟩
def GA (K:Fg) (x:V) (H:Hp) (n:Nat):Prop :=
 match x with
 | .str y=>y.length<=sizeLine/\n=y.length
 | .byt y=>y.size<=sizeLine/\n=y.size
 | .ref p=>(∃ xs,SqL K H p xs/\n=xs.length)\/∃ xs,SqT K H p xs/\n=xs.length
 | _=>False
theorem wk:bM X (.builtin "len") (fun xs H Q=>∃ x n,xs=[x]/\GA X.K x H n/\Q (.int n) H):=by
 intro pins s σ H xs us Q I r h;obtain ⟨x,n,rfl,e,q⟩:=h;obtain ⟨u,rfl,rx⟩:=vals1 r;have hl:=mS;have hs:sizeLine=16777216:=JQ;cases x with
 | str y =>
  obtain ⟨t,rfl⟩:=rx;obtain ⟨hy,e'⟩:y.length<=sizeLine/\n=y.length:=e;subst e';exact len_str (by omega) ⟨.int _,H,I.tok _,⟨_,rfl⟩,q⟩
 | byt y =>
  obtain ⟨t,rfl⟩:=rx;obtain ⟨hy,e'⟩:y.size<=sizeLine/\n=y.size:=e;subst e';exact PySem.W.len_bytes (by omega) ⟨.int _,H,I.tok _,⟨_,rfl⟩,q⟩
 | ref p =>
  cases rx;have e':(∃ xs,SqL X.K H p xs/\n=xs.length)\/∃ xs,SqT X.K H p xs/\n=xs.length:=e;rcases e' with ⟨xs,hx,e'⟩ | ⟨xs,hx,e'⟩
  ·subst e';obtain ⟨its,r',pl,hz⟩:=I.list hx;have hlen:=r'.length;exact Calls.call_len_list pl.isList (by simp only [Iy];omega) ⟨.int xs.length,H,I.tok _,⟨_,by simp only [Iy];rw [hlen]⟩,q⟩
  ·subst e';obtain ⟨its,r',pl,hz⟩:=I.tuple hx;have hlen:=r'.length;exact len_tuple pl (by simp only [Iy];omega) ⟨.int xs.length,H,I.tok _,⟨_,by simp only [Iy];rw [hlen]⟩,q⟩
 | _=>exact (show False from e).elim
end
end L2
namespace L2
open PySem PySem.Spec PyProof.Rows
section
variable {prog:Program} {w:World} {A:Around} {E:Value->Shared->Prop} {s:Shared} {K:Fg} {x dx C f:Addr} {mA:Str->Option Value} {name:Str} {v:Value}
end
section
variable {P:Program} {w:World} {H H':Hp} {h h':Heap} {a C dx:Addr} {fs fs':List (Str×V)}
end
section
variable {X:Cx} {pins:List (Addr×Obj)} {σ:St} {H:Hp} {s:Shared} {a C dx:Addr} {fs:List (Str×V)} {f:Str} {v:V} {A:Around} {E:Value->Shared->Prop}
end
section
variable {X:Cx} {o e value:Expr} {f:Str} {pos pos' tpos:Pos} {ta tv:TE}
end
section
variable {X:Cx} {pins:List (Addr×Obj)} {σ:St} {H:Hp} {s:Shared} {A:Around} {E:Value->Shared->Prop} {Q:Value->Shared->Prop} {c:Value} {b:Bool}
end
end L2
namespace L2
open PySem PySem.Spec PyProof.Rows
structure cj (k:Nat) (A:Around):Prop where
 hd:A.handled=none
 dp:A.depth+3*k+5 < recursionLimit
 un:A.units+16*k+200 < cLine
 gd:A.guards=some []
theorem cj.mono {j k:Nat} {A:Around} (r:cj k A) (h:j<=k):cj j A:=⟨r.hd,by have:=r.dp;omega,by have:=r.un;omega,r.gd⟩
theorem cj.deeper {k:Nat} {A:Around} (r:cj (k+1) A) (env:Env):cj k (A.deeper env) :=
 ⟨r.hd,by have:=r.dp;show A.depth+1+3*k+5 < _;omega,by have:=r.un;show A.units+3+16*k+200 < _;omega,r.gd⟩
theorem cj.in1 {k:Nat} {A:Around} (r:cj (k+1) A):cj k A.in1 :=
 ⟨r.hd,by have:=r.dp;show A.depth+3*k+5 < _;omega,by have:=r.un;show A.units+1+16*k+200 < _;omega,r.gd⟩
theorem cj.depth {k:Nat} {A:Around} (r:cj k A):A.depth < recursionLimit:=by have:=r.dp;omega
theorem cj.units {k:Nat} {A:Around} (r:cj k A):A.units+64 < cLine:=by have:=r.un;omega
def aq:TA:=fun _ H Q=>Q [] H
def ae (ta:TE) (tr:TA):TA:=fun σ H Q=>ta σ H fun x H1=>tr σ H1 fun xs H2=>Q (x :: xs) H2
section
variable {X:Cx} {e:Expr} {es:List Expr} {te:TE} {t:TA} {pos:Pos}
theorem xq:PA X [] aq:=fun _ _ _ _ H Q I h=>Calls.spliced_nil ⟨[],H,I,.nil,h⟩
theorem sh (ha:PE X e te) (hr:PA X es t) (hs:starEach (e :: es) X.env=(false,eval e X.env) :: starEach es X.env:=by rfl):PA X (e :: es) (ae te t):=by
 intro pos pins s σ H Q I h;rw [hs];show wpAny _ _ (spliced ((false,eval e X.env) :: backTo pos (starEach es X.env))) _ _ s;refine Calls.spliced_cons (thn (ha pins s σ H _ I h) fun u s1 ⟨x,H1,I1,r1,q1⟩=>?_);exact thn (hr pos pins s1 σ H1 _ I1 q1) fun us s2 ⟨xs,H2,I2,r2,q2⟩=>⟨x :: xs,H2,I2,.cons r1 r2,q2⟩
def gz (t:TA):TE:=fun σ H Q=>t σ H fun xs H1=>xs.length<=sizeLine/\∀ p,H1 p=none->Q (.ref p) (upd H1 p (.tup xs))
def kZ (t:TA):TE:=fun σ H Q=>t σ H fun xs H1=>xs.length<=sizeLine/\∀ p,H1 p=none->Q (.ref p) (upd H1 p (.lst xs))
theorem CS {x1} (h:PA X es t):PE X (.Tuple es x1 pos) (gz t):=by
 intro pins s σ H Q I hq;refine wpAny_Tuple_spliced (thn (h pos pins s σ H _ I hq) fun us s1 ⟨xs,H1,I1,r,z,q⟩=>⟨by rw [<- r.length];exact z,?_⟩);have hf:H1 s1.heap.objs.size=none:=I1.hok.fresh (Iv _);refine ⟨.ref s1.heap.objs.size,upd H1 s1.heap.objs.size (.tup xs),I1.laid (t':=s1.toks) (fun b u e=>Iw _ e) (Iv _) ?_,rfl,q _ hf⟩;exact ⟨z,us,r,⟨_,IX _ rfl,rfl,_,rfl⟩⟩
theorem C3 (h:PA X es t):PE X (.List es pos) (kZ t):=by
 intro pins s σ H Q I hq;refine wpAny_List_spliced (thn (h pos pins s σ H _ I hq) fun us s1 ⟨xs,H1,I1,r,z,q⟩=>⟨by rw [<- r.length];exact z,?_⟩);have hf:H1 s1.heap.objs.size=none:=I1.hok.fresh (Iv _);refine ⟨.ref s1.heap.objs.size,upd H1 s1.heap.objs.size (.lst xs),I1.laid (t':=s1.toks) (fun b u e=>Iw _ e) (Iv _) ?_,rfl,q _ hf⟩;exact ⟨z,us,0,r,IX _ rfl⟩
end
abbrev Sp:=List V->Hp->VK->XK->Prop
abbrev CXT:=List Env->Hp->Shared->XK->Value->Shared->Prop
structure Dz (P:Program) (w:World) (K:Fg) (mg:Str->Option Value) (base:Heap) (A:Around) (outer:List Env) (s:Shared) (H:Hp):Prop where
 frames:A.frames=some outer
 mod:Mod K mg base
 bs:∀ b o,base.get? b=some o->s.heap.get? b=some o/\H b=none
 bsz:base.objs.size<=s.heap.objs.size
 nt:s.heap.FunFrames base outer
 frf:∀ b∈frs outer,H b=none
 hok:HOk P w H s.heap
 bare:AllBare s.gens
def CE (outer:List Env) (P:Program) (w:World) (H:Hp) (s:Shared) (Q:VK) (u:Value) (s':Shared):Prop :=
 ∃ v H',s'.os=s.os/\AllBare s'.gens/\Un (frs outer) [] H H' s.heap s'.heap/\HOk P w H' s'.heap/\RelV v u/\Q v H'
def CR (CX:CXT) (outer:List Env) (P:Program) (w:World) (H:Hp) (s:Shared) (Q:VK) (E:XK) (r:Result) (s':Shared):Prop :=
 match r with
 | .ok (.ret u)=>CE outer P w H s Q u s'
 | .ok _=>False
 | .error e=>CX outer H s E e s'
structure dN (P:Program) (w:World) (K:Fg) (mg:Str->Option Value) (base:Heap) (CX:CXT) (k:Nat) (f:Addr) (fd:FuncData) (ps:List Str) (sp:Sp):Prop where
 len:∀ vs H Q E,sp vs H Q E->vs.length=ps.length
 run:∀ (A:Around) (outer:List Env) (s:Shared) (H:Hp) (args:Args) (us:List Value) (vs:List V) (Q:VK) (E:XK),cj k A->Dz P w K mg base A outer s H->BindsTo s fd args (ps.zip us)->Vals vs us->sp vs H Q E ->
  codeAny (model P w) A (.call (.ref f) args) (CR CX outer P w H s Q E) s
section
variable {X:Cx} {pins:List (Addr×Obj)} {σ:St} {H:Hp} {s s':Shared}
theorem Inv.Cb (I:Inv X pins σ H s):Dz X.prog X.w X.K X.mg X.base X.A X.stack s H :=
 ⟨I.ok.frames,I.ok.mod,I.bs,IY I.ok.bsz I.sz,I.stack,I.lG,I.hok,I.bare⟩
theorem Inv.after {Q:VK} {u:Value} (I:Inv X pins σ H s) (h:CE X.stack X.prog X.w H s Q u s'):EP X pins σ Q u s':=by
 obtain ⟨v,H',os,bare,un,hok,r,q⟩:=h;obtain ⟨hh,g,d,t,os'⟩:=s';obtain rfl:os'=s.os:=os;exact ⟨v,H',I.call (h':=hh) (g':=g) (d':=d) (t':=t) (ch:=[]) un hok bare (fun b z=>absurd z (by simp)),r,q⟩
end
def aG (sp:Sp) (dvs:List V) (E:XK) (t:TA):TE:=fun σ H Q=>t σ H fun vs H1=>sp (vs++dvs) H1 Q E
def Binds (K:Fg) (fd:FuncData) (ps:List Str) (ds:List Value):Prop :=
 ∀ (s:Shared) (us:List Value),K.In s.heap->(us++ds).length=ps.length->BindsTo s fd ⟨us,[]⟩ (ps.zip (us++ds))
theorem Binds.all {K:Fg} {fd:FuncData} {ps:List Str} (h:∀ us:List Value,us.length=ps.length->bindArgs fd ⟨us,[]⟩=pure (ps.zip us)):Binds K fd ps []:=fun s us _ hl=>by
 rw [Jd] at hl ⊢;exact .of_eq (h us hl)
def Passes (CX:CXT) (X:Cx) (E:XK):Prop:=∀ (pins:List (Addr×Obj)) (σ:St) (H:Hp) (s:Shared) (e:Value) (s':Shared),Inv X pins σ H s->CX X.stack H s E e s'->X.xe e s'
section
variable {X:Cx} {CX:CXT} {k:Nat} {f C:Addr} {fd:FuncData} {ps:List Str} {sp:Sp} {dvs:List V} {ds:List Value} {E:XK} {x m:Str} {p pos apos:Pos} {e o:Expr} {es:List Expr} {ta:TE} {t:TA}
theorem xy {pins:List (Addr×Obj)} {σ:St} {H:Hp} {s:Shared} {Q:VK} {us:List Value} {vs:List V} (F:dN X.prog X.w X.K X.mg X.base CX k f fd ps sp) (hr:cj k X.A) (hb:Binds X.K fd ps ds) (hd:Vals dvs ds) (hx:Passes CX X E)
  (I:Inv X pins σ H s) (r:Vals vs us) (h:sp (vs++dvs) H Q E):wpAny (model X.prog X.w) X.A (call (.ref f) us) (EP X pins σ Q) X.xe s:=by
 have r2:Vals (vs++dvs) (us++ds):=r.append hd;have hl:(us++ds).length=ps.length:=by rw [<- r2.length];exact F.len _ _ _ _ h
 refine wpAny_call (codeAny_mono (F.run X.A X.stack s H ⟨us,[]⟩ (us++ds) (vs++dvs) Q E hr I.Cb (hb s us I.kIn hl) r2 h) fun r s' hq=>?_);cases r with
 | error e=>exact hx pins σ H s e s' I hq
 | ok fl =>
  cases fl with
  | ret u=>exact I.after hq
  | next=>exact False.elim hq
  | brk=>exact False.elim hq
  | cont=>exact False.elim hq
theorem yH (F:dN X.prog X.w X.K X.mg X.base CX k f fd ps sp) (hr:cj k X.A) (hg:Gl X x) (hm:X.mg x=some (.ref f)) (hk:PySem.W.keepIn X.K (.ref f)=true) (hb:Binds X.K fd ps ds) (hd:Vals dvs ds) (hx:Passes CX X E)
  (ha:PA X (e :: es) t) (hdb:(x==("__debug__" : Str))=false:=by decide) (he:starEach (e :: es) X.env=(false,eval e X.env) :: starEach es X.env:=by rfl) (hpl:(backTo pos (starEach es X.env)).any (·.1)=false:=by rfl) :
  PE X (.Call (.Name x p) (e :: es) [] pos) (aG sp dvs E t):=by
 intro pins s σ H Q I h;refine Kq (jj I hg hm ?_ hdb);refine PySem.W.callWith_K (h₀:=X.base) I.ok.mod.kin hk (thn (ha pos pins s σ H _ I h) fun us s1 ⟨vs,H1,I1,r,q⟩=>⟨I1.kIn,?_⟩) he hpl;exact xy F hr hb hd hx I1 r q
end
def PK (X:Cx) (kws:List Keyword) (t:TA):Prop :=
 ∀ (pos:Pos) (pins:List (Addr×Obj)) (s:Shared) (σ:St) (H:Hp) (Q:List V->Hp->Prop),Inv X pins σ H s->t σ H Q->wpAny (model X.prog X.w) X.A (evalAll ((backToKw pos (keywordEach kws X.env)).map (·.2))) (AP X pins σ Q) X.xe s
section
variable {X:Cx} {CX:CXT} {k:Nat} {f C:Addr} {fd:FuncData} {ps ks:List Str} {sp:Sp} {E:XK} {x m:Str} {p pos apos kpos:Pos} {e o:Expr} {es:List Expr} {kws:List Keyword} {te ta:TE} {t tk:TA} {nm:Option Str}
theorem Am:PK X [] aq:=fun _ _ _ _ H Q I h=>wpAny_evalAll_nil ⟨[],H,I,.nil,h⟩
theorem zo (ha:PE X e te) (hr:PK X kws t):PK X (⟨nm,e,kpos⟩ :: kws) (ae te t):=by
 intro pos pins s σ H Q I h;show wpAny _ _ (evalAll ((do let v<-eval e X.env;standAt pos;pure v) :: (backToKw pos (keywordEach kws X.env)).map (·.2))) _ _ s;refine wpAny_evalAll_cons (Ib (thn (ha pins s σ H _ I h) fun u s1 ⟨x,H1,I1,r1,q1⟩=>Ib (wpAny_standAt (Il ?_))));exact thn (hr pos pins s1 σ H1 _ I1 q1) fun us s2 ⟨xs,H2,I2,r2,q2⟩=>⟨x :: xs,H2,I2,.cons r1 r2,q2⟩
variable {g:List Value->List Value->List Value} {gV:List V->List V->List V}
end
structure aI (N P:List Str) (sc:Scope):Prop where
 kind:sc.kind=.function
 co:sc.isCoroutine=false
 gen:sc.isGenerator=false
 nd:N.Nodup
 pre:N.take P.length=P
 par:∀ x∈P,sc.names.lookup x=some .local\/sc.names.lookup x=some .cell
 Bi:∀ y∈sc.names,y.2≠.free
theorem mQ {kindOf:Str->Option NameKind} {x:Str}:∀ {binds:List (Str×Value)} {m:Str->Option Value},(∀ v,(x,v) ∉ binds)->bindL kindOf binds m x=m x
 | [],_,_=>rfl
 | (n,v) :: r,m,h=>by
  unfold bindL;rw [mQ fun w hw=>h w (Io _ hw)];split
  ·have:x≠n:=by rintro rfl;exact h v Ik
   simp [this]
  ·rfl
theorem mw {kindOf:Str->Option NameKind} {x:Str}:∀ {binds:List (Str×Value)} {m:Str->Option Value},(∀ v,(x,v) ∉ binds)->bindC kindOf binds m x=m x
 | [],_,_=>rfl
 | (n,v) :: r,m,h=>by
  unfold bindC;rw [mw fun w hw=>h w (Io _ hw)];split
  ·rfl
  ·have:x≠n:=by rintro rfl;exact h v Ik
   simp [this]
theorem mZ {kindOf:Str->Option NameKind} {x:Str} {v:Value}:∀ {P:List Str} {vs:List Value} {i:Nat} {m:Str->Option Value},P.Nodup->P[i]?=some x->vs[i]?=some v->kindOf x=some .local ->
  bindL kindOf (P.zip vs) m x=some v
 | [],_,_,_,_,h,_,_=>by simp at h
 | _ :: _,[],_,_,_,_,h,_=>by simp at h
 | p :: P,w :: vs,0,m,nd,h1,h2,hk=>by
  simp at h1 h2;subst h1;subst h2;show bindL kindOf ((p,w) :: P.zip vs) m p=_;unfold bindL;rw [mQ fun v hv=>(Jt.mp nd).1 (List.of_mem_zip hv).1,Ip hk];simp
 | p :: P,w :: vs,i+1,m,nd,h1,h2,hk=>by
  show bindL kindOf ((p,w) :: P.zip vs) m x=_;unfold bindL;exact mZ (i:=i) (Jt.mp nd).2 (by simpa using h1) (by simpa using h2) hk
theorem lR {kindOf:Str->Option NameKind} {x:Str} {v:Value}:∀ {P:List Str} {vs:List Value} {i:Nat} {m:Str->Option Value},P.Nodup->P[i]?=some x->vs[i]?=some v->kindOf x≠some .local ->
  bindC kindOf (P.zip vs) m x=some v
 | [],_,_,_,_,h,_,_=>by simp at h
 | _ :: _,[],_,_,_,_,h,_=>by simp at h
 | p :: P,w :: vs,0,m,nd,h1,h2,hk=>by
  simp at h1 h2;subst h1;subst h2;show bindC kindOf ((p,w) :: P.zip vs) m p=_;unfold bindC;rw [mw fun v hv=>(Jt.mp nd).1 (List.of_mem_zip hv).1,Im hk];simp
 | p :: P,w :: vs,i+1,m,nd,h1,h2,hk=>by
  show bindC kindOf ((p,w) :: P.zip vs) m x=_;unfold bindC;exact lR (i:=i) (Jt.mp nd).2 (by simpa using h1) (by simpa using h2) hk
def start (N:List Str) (vs:List V):St:=vs.map some++List.replicate (N.length - vs.length) none
def fh (CX:CXT) (P:Program) (w:World) (K:Fg) (mg:Str->Option Value) (base:Heap) (N:List Str) (qual:Str) (scope:Scope) (f:Addr) (cd:Value) (A:Around) (outer:List Env) (s:Shared) (H:Hp) (E:XK):Cx where
 prog:=P
 w:=w
 K:=K
 mg:=mg
 base:=base
 A:=A.deeper (envOfC qual scope s.heap.objs.size f cd)
 N:=N
 s₀:=s
 H₀:=H
 env:=envOfC qual scope s.heap.objs.size f cd
 outer:=outer
 stack:=envOfC qual scope s.heap.objs.size f cd :: outer
 ex:=[]
 calm:=true
 fn:=fun _=>true
 pn:=[]
 xe:=fun e s'=>wpAny (model P w) (A.deeper (envOfC qual scope s.heap.objs.size f cd)) (leaving (envOfC qual scope s.heap.objs.size f cd) e) (fun _ s''=>CX outer H s E e s'') (fun e' s''=>CX outer H s E e' s'') s'
theorem pX {sc:Scope} {n:Nat} {x:Str} (h:sc.names.lookup x=some .cell):∃ c,(cellsFrom n sc.names []).lookup x=some c:=by
 have q:=PySem.W.cellsFrom_some sc.names n [] (.inl h);exact Option.isSome_iff_exists.mp q
theorem uk {CX:CXT} {P:Program} {w:World} {K:Fg} {mg:Str->Option Value} {base:Heap} {N ps:List Str} {qual:Str} {scope:Scope} {f:Addr} {cd:Value} {A:Around} {outer:List Env} {s s1:Shared} {H:Hp} {E:XK} {us:List Value} {vs:List V}
  (S:aI N ps scope) (hd:A.handled=none) (e0:Dz P w K mg base A outer s H) (hl:vs.length=ps.length) (r:Vals vs us)
  (x:InCallC s s.heap.objs.size (bindL (envOfC qual scope s.heap.objs.size f cd).kindOf (ps.zip us) fun _=>none) (cellsFrom (s.heap.objs.size+1) scope.names []) (bindC (envOfC qual scope s.heap.objs.size f cd).kindOf (ps.zip us) fun _=>none) s1) :
  Inv (fh CX P w K mg base N qual scope f cd A outer s H E) [] (start N vs) H s1:=by
 have hpl:ps.length<=N.length:=by have:=congrArg List.length S.pre;rw [Jh] at this;omega
 obtain ⟨h1,tk,rfl,hk⟩:=x.done;have noA:∀ b:Addr,b ∉ (fh CX P w K mg base N qual scope f cd A outer s H E).ex:=fun b z=>absurd (show b∈([]:List Addr) from z) (by simp)
 refine ⟨⟨e0.mod,S.kind,rfl,rfl,Iv _,fun y z c h1 h2=>?_,fun y hy=>?_,fun y c _ h=>?_,fun _=>hd,Around.frames_deeper e0.frames,.inr ⟨rfl,rfl⟩,fun b z=>absurd z (noA b),e0.bs,e0.bsz,fun b _ _=>noA b,fun b z=>absurd z (noA b),e0.nt,e0.frf⟩,
  rfl,e0.bare,Un.kept hk,⟨_,x.toInCall.ns,fun i y v h1 h2 h3=>?_⟩,fun y c h=>⟨_,x.cell y c h⟩,e0.hok.fresh (Iv _),fun y c h=>?_,fun p hp=>absurd (show p∈([]:List (Addr×Obj)) from hp) (by simp),e0.hok.kept hk,?_⟩
 ·exact name_of_addr x.apart (Kj h1) (Kj h2)
 ·have hy:scope.names.lookup y=some .cell\/scope.names.lookup y=some .free:=hy;rcases hy with hy | hy
  ·exact pX hy
  ·exact absurd rfl (S.Bi _ (Kj hy))
 ·exact K1 (x.above y c (Kj h))
 ·have hi:i < vs.length:=by
   unfold start at h2;by_cases hi:i < vs.length
   ·exact hi
   ·rw [Ii (by simpa using hi)] at h2;rw [List.getElem?_replicate] at h2;split at h2 <;> cases h2
  have ha:vs[i]?=some v:=by
   unfold start at h2;rw [Iu (by simpa using hi),IJ] at h2;cases e:vs[i]? with
   | none=>rw [e] at h2;cases h2
   | some a=>rw [e] at h2;cases h2;rfl
  obtain ⟨u,hu,rv⟩:=r.get ha;have hp:ps[i]?=some y:=by
   rw [<- S.pre,List.getElem?_take_of_lt (by omega)];exact h1
  have ndP:ps.Nodup:=by rw [<- S.pre];exact S.nd.sublist (List.take_sublist _ _)
  refine ⟨u,rv,?_⟩;rcases S.par y (IM hp) with k | k
  ·exact .inl ⟨k,mZ ndP hp hu k⟩
  ·obtain ⟨c,e⟩:=pX (n:=s.heap.objs.size+1) k;refine .inr ⟨.inl k,c,e,?_⟩;have q:=x.cell y c e;rw [lR ndP hp hu (by show scope.names.lookup y≠_;rw [k];decide)] at q;exact q
 ·exact e0.hok.fresh (K1 (x.above y c (Kj h)))
 ·unfold start;show _=N.length;rw [Ic,Ig,K4];omega
theorem AZ {CX:CXT} {P:Program} {w:World} {K:Fg} {mg:Str->Option Value} {base:Heap} {k:Nat} {f:Addr} {name qual:Str} {params:Arguments} {body:List Stmt} {scope:Scope} {dV kV doc pm cdv ct oc:Value} {an od:Option Addr}
  {osl:Array (Option Value)} {N ps:List Str} {sp:Sp} (lk:K.lookup f=some ⟨oc,od,.func (PySem.W.fnOf name qual params body scope dV kV doc pm an cdv ct),osl⟩) (hcd:PySem.W.codeIn K cdv qual=true) (S:aI N ps scope)
  (len:∀ vs H Q E,sp vs H Q E->vs.length=ps.length)
  (hbody:∀ (A:Around) (outer:List Env) (s:Shared) (H:Hp) (vs:List V) (Q:VK) (E:XK),cj k (A.deeper (envOfC qual scope s.heap.objs.size f cdv))->sp vs H Q E ->
   ∃ t,PSs (fh CX P w K mg base N qual scope f cdv A outer s H E) body t/\t { nx:=fun _ H'=>Q .non H',rt:=Q } (start N vs) H) :
  dN P w K mg base CX (k+1) f (PySem.W.fnOf name qual params body scope dV kV doc pm an cdv ct) ps sp:=by
 refine ⟨len,fun A outer s H args us vs Q E hr e0 hb r hsp=>?_⟩;have hl:=len _ _ _ _ hsp;have KX:K.In s.heap:=e0.mod.kin.keeps fun b o e=>(e0.bs b o e).1;have lim:s.heap.NoLimit:=e0.mod.nolimit.keeps fun b o e=>(e0.bs b o e).1;have hkind:∀ y∈ps.zip us,scope.names.lookup y.1=some .local\/(scope.names.lookup y.1=some .cell/\((cellsFrom (s.heap.objs.size+1) scope.names []).lookup y.1).isSome=true):=fun ⟨n,v⟩ hy=>by
  rcases S.par n (List.of_mem_zip hy).1 with q | q
  ·exact .inl q
  ·exact .inr ⟨q,PySem.W.cellsFrom_some _ _ _ (.inl q)⟩
 refine codeAny_call_function hr.depth (KX _ _ lk) rfl S.co S.gen rfl (PySem.W.codeRec_of KX hcd) (hb _ _ _ _ ?_);refine wpAny_newFunctionEnv_cells S.kind hkind fun env he s1 x=>?_;subst he;refine ⟨lim.keeps x.toInCall.keep,codeAny_func ?_⟩;obtain ⟨t,ht,hq⟩:=hbody A outer s H vs Q E (hr.deeper _) hsp;have I:Inv (fh CX P w K mg base N qual scope f cdv A outer s H E) [] (start N vs) H s1:=uk S hr.hd e0 hl r x;refine Jb (ht [] s1 (start N vs) H _ I hq) (fun fl s' hs=>?_) fun e s' hs=>hs;have fin:∀ {σ':St} {H':Hp} {v:V} {u:Value},Inv (fh CX P w K mg base N qual scope f cdv A outer s H E) [] σ' H' s'->RelV v u->Q v H'->CE outer P w H s Q u s' :=
  fun {σ' H' v u} J rv q=>⟨v,H',J.os,J.bare,J.base,J.hok,rv,q⟩
 cases fl with
 | ret u =>
  obtain ⟨v,σ',H',J,rv,q⟩:=hs;exact fin J rv q
 | next =>
  obtain ⟨σ',H',J,q⟩:=hs;exact fin (v:=V.non) (u:=Value.none) J rfl q
 | brk =>
  obtain ⟨_,_,_,q⟩:=hs;exact False.elim q
 | cont =>
  obtain ⟨_,_,_,q⟩:=hs;exact False.elim q
end L2
namespace L2
open PySem PySem.Spec PyProof.Rows
section
variable {X:Cx} {x:Str} {p pos:Pos} {e:Expr} {es:List Expr} {t:TA} {id T:String} {r:List V->Hp->VK->Prop}
def tCB (r:List V->Hp->VK->Prop) (t:TA):TE:=fun σ H Q=>t σ H fun vs H1=>r vs H1 Q
theorem vp (hc:bM X (.builtin id) r) (hg:Gl X x) (hm:X.mg x=none) (hv:bootBuiltins x=some (.builtin id)) (ha:PA X (e :: es) t) (hn:x ≠ "__name__" := by decide) (hdb:(x==("__debug__" : Str))=false:=by decide)
  (he:starEach (e :: es) X.env=(false,eval e X.env) :: starEach es X.env:=by rfl) (hpl:(backTo pos (starEach es X.env)).any (·.1)=false:=by rfl):PE X (.Call (.Name x p) (e :: es) [] pos) (tCB r t):=by
 intro pins s σ H Q I h;refine Kq (lK I hg hm hv ?_ hn hdb);exact PyProof.Rows.callWith_builtin1 (thn (ha pos pins s σ H _ I h) fun us s1 ⟨vs,H1,I1,r1,q1⟩=>hc pins s1 σ H1 vs us Q I1 r1 q1) he hpl
theorem u7 (hc:bM X (.type T) r) (hg:Gl X x) (hm:X.mg x=none) (hv:bootBuiltins x=some (.type T)) (ha:PA X (e :: es) t) (hn:x ≠ "__name__" := by decide) (hdb:(x==("__debug__" : Str))=false:=by decide)
  (he:starEach (e :: es) X.env=(false,eval e X.env) :: starEach es X.env:=by rfl) (hpl:(backTo pos (starEach es X.env)).any (·.1)=false:=by rfl):PE X (.Call (.Name x p) (e :: es) [] pos) (tCB r t):=by
 intro pins s σ H Q I h;refine Kq (lK I hg hm hv ?_ hn hdb);exact PyProof.Rows.callWith_type1 (thn (ha pos pins s σ H _ I h) fun us s1 ⟨vs,H1,I1,r1,q1⟩=>hc pins s1 σ H1 vs us Q I1 r1 q1) he hpl
end
end L2
namespace HT
open PySem PyProof.Rows
section
open PySem.SeqAt
open PySem.AutoSeq1 (wpAny_loadPart')
open PySem.MeetsSeq PySem.MeetsSeq2 PySem.MeetsSeq3
end
section
variable {prog:Program} {w:World} {A:Around} {E:Value->Shared->Prop} {s:Shared}
theorem zp {t b:Addr} {vs ws:List Value} {Q:Value->Shared->Prop} (ht:IsTup s.heap t vs.toArray) (hb:IsTup s.heap b ws.toArray) (hv:vs≠[])
  (h1:ws=[]->Q (.ref t) s) (h2:ws≠[]->Q (.ref s.heap.objs.size) { s with heap:=s.heap.push { cls:=.type "tuple", data:=.seq (vs++ws).toArray } })
  (hsz:vs.length+ws.length<=sizeLine):wpAny (model prog w) A (binaryOp .Add (.ref t) (.ref b)) Q E s:=by
 obtain ⟨⟨cls,dd,data,sl⟩,ho,hc,n,hd⟩:=id ht;obtain ⟨⟨cls2,dd2,data2,sl2⟩,ho2,hc2,n2,hd2⟩:=id hb;simp only at hc hd hc2 hd2;subst hc hd hc2 hd2;have e:vs.toArray++ws.toArray=(vs++ws).toArray:=by simp
 by_cases hw:ws=[]
 ·exact concat_meets ⟨_,ho,rfl⟩ ⟨_,ho2,rfl⟩ noFill_tuple_add seq_tuple_add PySem.F.slot_tuple_add PySem.F.entry_tuple_add (PySem.F.args_tuple_add_2 _ _)
   (tuple_addW1 t b vs.toArray ws.toArray n n2 dd dd2 sl sl2 (by simpa using hv) (by simp [hw])) ⟨ho,ho2,h1 hw⟩
 ·refine concat_meets ⟨_,ho,rfl⟩ ⟨_,ho2,rfl⟩ noFill_tuple_add seq_tuple_add PySem.F.slot_tuple_add PySem.F.entry_tuple_add (PySem.F.args_tuple_add_2 _ _)
   (tuple_addW2 t b vs.toArray ws.toArray n n2 dd dd2 sl sl2 (by simpa using hv) (by simpa using hw) (by rw [Iy,Iy];exact hsz)) ⟨ho,ho2,?_⟩
  rw [e];exact h2 hw
def sIx (n d:Nat):Option Int->Nat
 | none=>d
 | some v=>if v < 0 then (v+(n:Int)).toNat else min v.toNat n
theorem oW (n d:Nat) (hd:d<=n) (o:Option Int):sIx n d o<=n:=by
 cases o with
 | none=>exact hd
 | some v =>
  show (if v < 0 then (v+(n:Int)).toNat else min v.toNat n)<=n;by_cases hv:v < 0
  ·rw [Ip hv];omega
  ·rw [Im hv];exact Nat.min_le_right _ _
theorem r9 (v:Int) (n d:Nat):(if v < 0 then max (v+(n:Int)) 0 else min v (n:Int))=((sIx n d (some v):Nat):Int):=by
 show (if v < 0 then max (v+(n:Int)) 0 else min v (n:Int))=(((if v < 0 then (v+(n:Int)).toNat else min v.toNat n):Nat):Int);by_cases hv:v < 0
 ·simp only [Ip hv];omega
 ·simp only [Im hv];omega
theorem qR (lo hi:Option Int) (n:Nat):Builtin.Slice.sliceAdjust lo hi 1 (n:Int)=(((sIx n 0 lo:Nat):Int),((sIx n n hi:Nat):Int)):=by
 have h1:¬((1:Int) < 0):=by omega
 unfold Builtin.Slice.sliceAdjust;simp only [h1,Kk];refine Prod.ext ?_ ?_
 ·cases lo with
  | none=>rfl
  | some v=>exact r9 v n 0
 ·cases hi with
  | none=>rfl
  | some v=>exact r9 v n n
theorem qG (i j:Nat):Builtin.Slice.slicePlaces (i:Int) (j:Int) 1=j - i:=by
 unfold Builtin.Slice.slicePlaces;have h1:(1:Int) > 0:=by omega
 simp only [h1,KN,Int.ediv_one];split <;> omega
theorem ko {v:Value} {o:Option Int} {Q:Option Int->Shared->Prop} (p:IsPart v o) (h:Q o s):wpAny (model prog w) A (Builtin.Slice.slicePartIndex v) Q E s:=by
 cases p with
 | none=>exact slicePart_none h
 | int i t=>exact slicePart_int h
theorem iH {sl:Addr} {vl vu:Value} {lo hi:Option Int} {n:Nat} {Q:Int×Int×Nat->Shared->Prop} (hs:s.heap.IsSliceOf sl vl vu .none) (pl:IsPart vl lo) (pu:IsPart vu hi)
  (h:Q (((sIx n 0 lo:Nat):Int),1,sIx n n hi - sIx n 0 lo) s):wpAny (model prog w) A (Builtin.Slice.sliceApplied (.ref sl) (pure (n:Int))) Q E s:=by
 obtain ⟨os,hos,hcs,hds⟩:=id hs;unfold Builtin.Slice.sliceApplied Builtin.Slice.sliceFields;refine Ib (Ib (wpAny_field hos hds (x:=vl) rfl (Ib (wpAny_field hos hds (x:=vu) rfl (Ib (wpAny_field hos hds (x:=.none) rfl (Il ?_)))))));refine Ib (slicePart_none ?_);show wpAny _ _ (if ((1:Int)==0)=true then _ else _) _ _ s;rw [Im (by decide)];refine Ib (ko pl (Ib (ko pu (Ib (Il ?_)))));show wpAny _ _ (match Builtin.Slice.sliceAdjust lo hi 1 (n:Int) with | (lo,hi)=>pure (lo,(1:Int),Builtin.Slice.slicePlaces lo hi 1)) _ _ s;rw [qR lo hi n];show wpAny _ _ (pure (((sIx n 0 lo:Nat):Int),(1:Int),Builtin.Slice.slicePlaces ((sIx n 0 lo:Nat):Int) ((sIx n n hi:Nat):Int) 1)) _ _ s;rw [qG];exact Il h
theorem v9 (xs:Array Value) (i k:Nat):((List.range k).filterMap fun (m:Nat)=>xs[((i:Int)+(m:Int)*1).toNat]?).toArray=((xs.toList.drop i).take k).toArray:=by
 have e:(fun (m:Nat)=>xs[((i:Int)+(m:Int)*1).toNat]?)=fun m=>xs[i+m]?:=by
  funext m;have:((i:Int)+(m:Int)*1).toNat=i+m:=by omega
  rw [this]
 rw [e];have:=pick_run xs i k;rw [List.filterMap_map] at this;have e2:((fun x=>xs[x]?)∘fun x=>i+x)=fun m=>xs[i+m]?:=rfl;rw [e2] at this;rw [this]
theorem gK {t sl:Addr} {items:Array Value} {vl vu:Value} {lo hi:Option Int} {Q:Value->Shared->Prop} (ht:IsTup s.heap t items) (hs:s.heap.IsSliceOf sl vl vu .none) (pl:IsPart vl lo) (pu:IsPart vu hi)
  (hw:¬(sIx items.size 0 lo=0/\sIx items.size items.size hi=items.size))
  (h:Q (.ref s.heap.objs.size) { s with heap:=s.heap.push { cls:=.type "tuple", data:=.seq ((items.toList.drop (sIx items.size 0 lo)).take (sIx items.size items.size hi - sIx items.size 0 lo)).toArray } })
  (hsz:items.size<=sizeLine):wpAny (model prog w) A (getItem (.ref t) (.ref sl)) Q E s:=by
 have htake:sizeOk (.seq ((items.toList.drop (sIx items.size 0 lo)).take (sIx items.size items.size hi - sIx items.size 0 lo)).toArray):=by
  show ((items.toList.drop (sIx items.size 0 lo)).take (sIx items.size items.size hi - sIx items.size 0 lo)).toArray.size<=sizeLine;rw [Iy,Jh,JD,JN];omega
 have hj:sIx items.size items.size hi<=items.size:=oW _ _ (Iv _) hi;obtain ⟨os,hos,hcs,hds⟩:=id hs;have hTs:s.TypeIs (.ref sl) "slice" := ⟨os,hos,hcs⟩;unfold getItem;try with_reducible refine J2 ?_
 first | refine Ib (Il ?_) | skip
 refine Ib (wpAny_sequenceKey ht.typeIs (by decide) ?_)
 refine Ib (Ks (name:=Str.ofString "__getitem__") ht.typeIs PyProof.Rows.slot_tuple_getitem
  (Kf PyProof.Rows.slot_tuple_getitem ht.typeIs entry_tuple_getitem ?_ (args_tuple_getitem _ _)))
 show wpAny _ _ (Builtin.Tuple.tupleItemsOf (.ref t)>>=_) _ _ s;refine Ib (tupleItemsOf_ ht ?_);refine Ib (wpAny_typeOf hTs ?_);rw [Ip (by decide)];refine Ib (iH hs pl pu ?_);have hno:¬((((sIx items.size 0 lo:Nat):Int)==0&&(1:Int)==1&&(sIx items.size items.size hi - sIx items.size 0 lo)==items.size)=true):=by
  intro q;rw [Ji,Ji] at q;have q1:((sIx items.size 0 lo:Nat):Int)=0:=eq_of_beq q.1.1;have q2:sIx items.size items.size hi - sIx items.size 0 lo=items.size:=eq_of_beq q.2;exact hw ⟨by omega,by omega⟩
 show wpAny _ _ (if (((sIx items.size 0 lo:Nat):Int)==0&&(1:Int)==1&&(sIx items.size items.size hi - sIx items.size 0 lo)==items.size)=true then _ else _) _ _ s;rw [Im hno,v9];first
  | exact Ib (m:=Builtin.Tuple.tupleExact _) (JJ (Il ⟨_,rfl,Il h⟩) htake)
  | exact Ib (m:=Builtin.Tuple.tupleExact _) (JJ (Ib (Il (Il ⟨_,rfl,Il h⟩))) htake)
  | exact Ib (Ib (m:=Builtin.Tuple.tupleExact _) (JJ (Il (Il ⟨_,rfl,Il h⟩)) htake))
  | exact Ib (Ib (m:=Builtin.Tuple.tupleExact _) (JJ (Il ⟨_,rfl,Il h⟩) htake))
end
end HT
namespace L2
open PySem PySem.Spec PyProof.Rows
abbrev TO:=St->Hp->(Option Int->Hp->Prop)->Prop
def PO (X:Cx) (e:Option Expr) (t:TO):Prop :=
 ∀ (pins:List (Addr×Obj)) (s:Shared) (σ:St) (H:Hp) (Q:Option Int->Hp->Prop),Inv X pins σ H s->t σ H Q ->
  wpAny (model X.prog X.w) X.A (evalPart e X.env) (fun u s'=>∃ o H',Inv X pins σ H' s'/\IsPart u o/\Q o H') X.xe s
def jg:TO:=fun _ H Q=>Q none H
def u0 (t:TE):TO:=fun σ H Q=>t σ H fun x H1=>∃ i,x=.int i/\Q (some i) H1
section
variable {X:Cx} {e:Expr} {te:TE} {lo hi:Option Expr} {tl th:TO} {pos p2:Pos}
theorem zq:PO X none jg:=by
 intro pins s σ H Q I h;rw [evalPart_none];exact Il ⟨none,H,I,.none,h⟩
theorem xT (h:PE X e te):PO X (some e) (u0 te):=by
 intro pins s σ H Q I hw;rw [evalPart_some];refine thn (h pins s σ H _ I hw) fun u s1 ⟨x,H1,I1,r1,q1⟩=>?_;obtain ⟨i,rfl,q⟩:=q1;obtain ⟨t,rfl⟩:=r1;exact ⟨some i,H1,I1,.int i t,q⟩
def SlR (X:Cx) (r:V->Option Int->Option Int->Hp->VK->Prop):Prop :=
 ∀ (pins:List (Addr×Obj)) (s:Shared) (σ:St) (H:Hp) (x:V) (v vl vu:Value) (lo hi:Option Int) (sl:Addr) (Q:VK),Inv X pins σ H s->RelV x v->s.heap.IsSliceOf sl vl vu .none->IsPart vl lo->IsPart vu hi->r x lo hi H Q ->
  ∃ T id,typeLookup (.type T) "__getitem__" = pure (some (.builtin id))/\s.TypeIs v T/\wpAny (model X.prog X.w) X.A (getItem v (.ref sl)) (EP X pins σ Q) X.xe s
theorem SlR.or {r r':V->Option Int->Option Int->Hp->VK->Prop} (h:SlR X r) (h':SlR X r'):SlR X (fun x lo hi H Q=>r x lo hi H Q\/r' x lo hi H Q):=by
 intro pins s σ H x v vl vu lo hi sl Q I rx hs pl pu q;rcases q with q | q
 ·exact h pins s σ H x v vl vu lo hi sl Q I rx hs pl pu q
 ·exact h' pins s σ H x v vl vu lo hi sl Q I rx hs pl pu q
def tSl (r:V->Option Int->Option Int->Hp->VK->Prop) (te:TE) (tl th:TO):TE:=fun σ H Q=>te σ H fun x H1=>tl σ H1 fun l H2=>th σ H2 fun u H3=>r x l u H3 Q
theorem v7 {r:V->Option Int->Option Int->Hp->VK->Prop} (hr:SlR X r) (he:PE X e te) (hl:PO X lo tl) (hu:PO X hi th):PE X (.Subscript e (.Slice lo hi none p2) pos) (tSl r te tl th):=by
 intro pins s σ H Q I h;refine Subscript_ (thn (he pins s σ H _ I h) fun v s1 ⟨x,H1,I1,r1,q1⟩=>?_);refine wpAny_Slice (thn (hl pins s1 σ H1 _ I1 q1) fun vl s2 ⟨l,H2,I2,pl,q2⟩=>thn (hu pins s2 σ H2 _ I2 q2) fun vu s3 ⟨u,H3,I3,pu,q3⟩=>?_);rw [evalPart_none];refine Il ?_;have I4:Inv X pins σ H3 { s3 with heap:=s3.heap.push { cls:=.type "slice", data:=.fields #[vl,vu,.none] } }:=I3.kept (t':=s3.toks) fun b ob q=>Iw _ q;obtain ⟨T,id,hT,ht,hg⟩:=hr pins { s3 with heap:=s3.heap.push { cls:=.type "slice", data:=.fields #[vl,vu,.none] } } σ H3 x v vl vu l u s3.heap.objs.size Q I4 r1 (Heap.IsSliceOf.new ..) pl pu q3;show wpAny (model X.prog X.w) X.A (subscriptTail e (.Slice lo hi none p2) v (.ref s3.heap.objs.size)) (EP X pins σ Q) X.xe { s3 with heap:=s3.heap.push { cls:=.type "slice", data:=.fields #[vl,vu,.none] } };exact tail_any (ops:=[.ref s3.heap.objs.size,v]) ht hT hg (by with_unfolding_all rfl)
def vf (xs:List V) (lo hi:Option Int):List V:=(xs.drop (HT.sIx xs.length 0 lo)).take (HT.sIx xs.length xs.length hi - HT.sIx xs.length 0 lo)
theorem jV (xs:List V) (lo hi:Option Int):(vf xs lo hi).length<=xs.length:=by
 unfold vf;rw [Jh,JD];omega
def B8 (K:Fg):V->Option Int->Option Int->Hp->VK->Prop:=fun x lo hi H Q=>∃ a xs,x=.ref a/\SqT K H a xs /\
 ¬(HT.sIx xs.length 0 lo=0/\HT.sIx xs.length xs.length hi=xs.length)/\∀ p,H p=none->Q (.ref p) (upd H p (.tup (vf xs lo hi)))
theorem t8:SlR X (B8 X.K):=by
 intro pins s σ H x v vl vu lo hi sl Q I rx hs pl pu h;obtain ⟨a,xs,rfl,hx,hw,q⟩:=h;cases rx;obtain ⟨its,r,ht,hz⟩:=I.tuple hx;have hlen:its.toArray.size=xs.length:=by rw [Iy];exact r.length.symm
 refine ⟨"tuple", _,PyProof.Rows.slot_tuple_getitem.lookup,ht.typeIs,?_⟩;refine HT.gK ht hs pl pu (by rw [hlen];exact hw) ?_ (by rw [hlen];exact hz);rw [hlen];refine ⟨.ref s.heap.objs.size,_,I.laid (t':=s.toks) (o:=.tup (vf xs lo hi)) (fun b ob q=>Iw _ q) (Iv _) ?_,rfl,q _ (I.hok.fresh (Iv _))⟩;exact ⟨IY (jV xs lo hi) hz,_,(r.drop (HT.sIx xs.length 0 lo)).take (HT.sIx xs.length xs.length hi - HT.sIx xs.length 0 lo),IsTup.new _ _⟩
def Af (K:Fg):R2:=fun x y H Q=>∃ a b xs ys,x=.ref a/\y=.ref b/\SqT K H a xs/\SqT K H b ys/\xs≠[]/\xs.length+ys.length<=sizeLine /\
 (ys=[]->Q (.ref a) H)/\(ys≠[]->∀ p,H p=none->Q (.ref p) (upd H p (.tup (xs++ys))))
theorem Vals.nR {xs:List V} {us:List Value} (r:Vals xs us):us=[]↔xs=[]:=by
 cases r with
 | nil=>simp
 | cons _ _=>simp
theorem yL:OpR X (binaryOp .Add) (Af X.K):=by
 intro pins s σ H x y v u Q I rx ry h;obtain ⟨a,b,xs,ys,rfl,rfl,ha,hb,hx,hz,q1,q2⟩:=h;cases rx;cases ry;obtain ⟨its,r1,p1,_⟩:=I.tuple ha;obtain ⟨its2,r2,p2,_⟩:=I.tuple hb;refine HT.zp p1 p2 (fun z=>hx (r1.nR.mp z)) (fun z=>⟨.ref a,H,I,rfl,q1 (r2.nR.mp z)⟩) (fun z=>?_) (by rw [<- r1.length,<-r2.length];exact hz);refine ⟨.ref s.heap.objs.size,_,I.laid (t':=s.toks) (o:=.tup (xs++ys)) (fun b ob q=>Iw _ q) (Iv _) ?_,rfl,q2 (fun w=>z (r2.nR.mpr w)) _ (I.hok.fresh (Iv _))⟩;exact ⟨by rw [Ic];exact hz,_,r1.append r2,IsTup.new _ _⟩
end
end L2
namespace L2
open PySem PySem.Spec PyProof.Rows
def ixN (n:Nat) (i:Int):Option Nat:=if 0<=i then (if i < n then some i.toNat else none) else if -(n:Int)<=i then some (i+n).toNat else none
def atI {α:Type} (xs:List α) (i:Int):Option α:=(ixN xs.length i).bind fun j=>xs[j]?
theorem zv {n:Nat} {i:Int} {j:Nat} (h:ixN n i=some j):seqIndex? i n=some j/\j < n/\-(n:Int)<=i/\i < n:=by
 unfold ixN at h;by_cases h0:0<=i
 ·rw [Ip h0] at h;by_cases h1:i < n
  ·rw [Ip h1] at h;have e:i.toNat=j:=Jk h;exact ⟨by rw [seqIndex_of h0 h1,e],by omega,by omega,h1⟩
  ·rw [Im h1] at h;cases h
 ·rw [Im h0] at h;by_cases h1:-(n:Int)<=i
  ·rw [Ip h1] at h;have e:(i+n).toNat=j:=Jk h;exact ⟨by rw [seqIndex_neg (by omega) h1,e],by omega,h1,by omega⟩
  ·rw [Im h1] at h;cases h
theorem nW {α:Type} {xs:List α} {i:Int} {v:α} (h:atI xs i=some v):∃ j,seqIndex? i xs.length=some j/\xs[j]?=some v/\j < xs.length/\-(xs.length:Int)<=i/\i < xs.length:=by
 unfold atI at h;cases e:ixN xs.length i with
 | none=>rw [e] at h;cases h
 | some j =>
  rw [e] at h;obtain ⟨h1,h2,h3,h4⟩:=zv e;exact ⟨j,h1,h,h2,h3,h4⟩
theorem nS {α:Type} {xs:List α} {j:Nat} {v:α} (h:xs[j]?=some v):atI xs (j:Int)=some v:=by
 have hj:j < xs.length:=(Ie.mp h).1;have e:ixN xs.length (j:Int)=some j:=by
  unfold ixN;rw [Ip (by omega),Ip (by omega)];simp
 unfold atI;rw [e];exact h
def sv (b:Expr):Prop:=∀ o i,subscripted b false o i=operate [o,i] (getItem o i)
def IxR (X:Cx) (r:R2):Prop :=
 ∀ (value slice:Expr) (pins:List (Addr×Obj)) (s:Shared) (σ:St) (H:Hp) (x y:V) (v u:Value) (Q:VK),Inv X pins σ H s->RelV x v->RelV y u->r x y H Q ->
  subscripted slice false v u=operate [v,u] (getItem v u)->wpAny (model X.prog X.w) X.A (subscriptTail value slice v u) (EP X pins σ Q) X.xe s
section
variable {X:Cx} {a b:Expr} {ta tb:TE} {pos:Pos}
theorem IxR.or {r r':R2} (h:IxR X r) (h':IxR X r'):IxR X (fun x y H Q=>r x y H Q\/r' x y H Q):=by
 intro value slice pins s σ H x y v u Q I rx ry q hs;rcases q with q | q
 ·exact h value slice pins s σ H x y v u Q I rx ry q hs
 ·exact h' value slice pins s σ H x y v u Q I rx ry q hs
theorem Gq {r:R2} (hr:IxR X r) (ha:PE X a ta) (hb:PE X b tb) (hs:sv b):PE X (.Subscript a b pos) (tOp r ta tb):=by
 intro pins s σ H Q I h;exact Subscript_ (FN ha hb I h fun v u s2 x y H2 I2 rx ry q=>hr a b pins s2 σ H2 x y v u Q I2 rx ry q (hs _ _))
def G2 (K:Fg):R2:=fun x y H Q=>∃ p xs i v,x=.ref p/\y=.int i/\SqL K H p xs/\atI xs i=some v/\Q v H
def G0 (K:Fg):R2:=fun x y H Q=>∃ p xs i v,x=.ref p/\y=.int i/\SqT K H p xs/\atI xs i=some v/\Q v H
def GQ:R2:=fun x y H Q=>∃ z i c,x=.str z/\y=.int i/\z.length<=sizeLine/\atI z.cps.toList i=some c/\Q (.str ⟨#[c]⟩) H
theorem ym:IxR X (G2 X.K):=by
 intro value slice pins s σ H x y v u Q I rx ry h hs;obtain ⟨p,xs,i,z,rfl,rfl,hq,he,q⟩:=h;cases rx;obtain ⟨t,rfl⟩:=ry;obtain ⟨its,r,pl,hz⟩:=I.list hq;obtain ⟨j,h1,h2,h3,h4,h5⟩:=nW he;obtain ⟨w,ew,rw'⟩:=r.get h2;have hl:=r.length;have hn:=mS;have fin:EP X pins σ Q w s:=⟨z,H,I,rw',q⟩;by_cases h0:0<=i
 ·have hj:i.toNat=j:=by
   rw [seqIndex_of h0 h5] at h1;exact Jk h1
  exact item_listR pl.isList h0 (by omega) (by rw [hj];simpa using ew) fin hs
 ·have hj:(i+(its.toArray.size:Int)).toNat=j:=by
   rw [seqIndex_neg (by omega) h4] at h1;rw [Iy,<-hl];exact Jk h1
  exact subscriptTail_builtinR (x:=w) pl.isList.typeIs slot_list_getitem.lookup
   (wpAny_getItem_list_neg (Q:=fun r s'=>r=w/\EP X pins σ Q r s') pl.isList (by omega) (by rw [Iy] <;> omega) (by omega) (by rw [hj];simpa using ew) ⟨rfl,fin⟩) hs
theorem A8:IxR X (G0 X.K):=by
 intro value slice pins s σ H x y v u Q I rx ry h hs;obtain ⟨p,xs,i,z,rfl,rfl,hq,he,q⟩:=h;cases rx;obtain ⟨t,rfl⟩:=ry;obtain ⟨its,r,pl,hz⟩:=I.tuple hq;obtain ⟨j,h1,h2,h3,h4,h5⟩:=nW he;obtain ⟨w,ew,rw'⟩:=r.get h2;have hl:=r.length;have hn:=mS;have fin:EP X pins σ Q w s:=⟨z,H,I,rw',q⟩;exact subscriptTail_builtinR (x:=w) pl.typeIs slot_tuple_getitem.lookup
  (getItem_tuple (j:=j) (Q:=fun r s'=>r=w/\EP X pins σ Q r s') pl (by omega) (by omega) (by rw [Iy,<-hl];exact h1) (by simpa using ew) ⟨rfl,fin⟩) hs
theorem De:IxR X GQ:=by
 intro value slice pins s σ H x y v u Q I rx ry h hs;obtain ⟨z,i,c,rfl,rfl,hz,he,q⟩:=h;obtain ⟨t,rfl⟩:=rx;obtain ⟨t',rfl⟩:=ry;obtain ⟨j,h1,h2,h3,h4,h5⟩:=nW he;have hl:z.cps.toList.length=z.length:=by simp [Str.length]
 rw [hl] at h1 h4 h5;have hn:=mS
 exact tail_any (typeIs_str s z t) slot_str_getitem.lookup (getItem_str (c:=c) (by
  have e1:decide (i < -(2 ^ 63:Int))=false:=IU (by omega);have e2:decide (i>=2 ^ 63)=false:=IU (by omega)
  rw [e1,e2,Bool.or_false]) (by rw [h1];simpa using h2) ⟨.str ⟨#[c]⟩,H,I.tok _,⟨_,rfl⟩,q⟩) hs
def rIx (K:Fg):R2:=fun x y H Q=>G2 K x y H Q\/G0 K x y H Q\/GQ x y H Q
theorem CJ:IxR X (rIx X.K):=ym.or (A8.or De)
theorem mx (lo hi:Option Int) (n:Nat):(sliceBounds lo hi none n).1=((HT.sIx n 0 lo:Nat):Int)/\(sliceBounds lo hi none n).2.1=((HT.sIx n n hi:Nat):Int)/\(sliceBounds lo hi none n).2.2=1:=by
 refine ⟨?_,?_,rfl⟩
 ·cases lo with
  | none=>simp [sliceBounds,HT.sIx]
  | some i =>
   simp only [sliceBounds,HT.sIx,Option.getD_none,show (1:Int) > 0 by decide,KN];by_cases h:i < 0
   ·simp only [h,KN] <;> omega
   ·simp only [h,Kk] <;> omega
 ·cases hi with
  | none=>simp [sliceBounds,HT.sIx]
  | some i =>
   simp only [sliceBounds,HT.sIx,Option.getD_none,show (1:Int) > 0 by decide,KN];by_cases h:i < 0
   ·simp only [h,KN] <;> omega
   ·simp only [h,Kk] <;> omega
theorem kU (its:List Value) (lo hi:Option Int):slicePick its.toArray lo hi none=((its.drop (HT.sIx its.length 0 lo)).take (HT.sIx its.length its.length hi - HT.sIx its.length 0 lo)).toArray:=by
 obtain ⟨h1,h2,h3⟩:=mx lo hi its.toArray.size;unfold slicePick;rw [h1,h2,h3];simp only [sliceRange_one,pick_run,Iy] <;> rfl
def Cs (K:Fg):V->Option Int->Option Int->Hp->VK->Prop:=fun x lo hi H Q=>∃ a xs,x=.ref a/\SqL K H a xs/\∀ p,H p=none->Q (.ref p) (upd H p (.lst (vf xs lo hi)))
theorem oG:SlR X (Cs X.K):=by
 intro pins s σ H x v vl vu lo hi sl Q I rx hs pl pu h;obtain ⟨a,xs,rfl,hx,q⟩:=h;cases rx;obtain ⟨its,r,ht,hz⟩:=I.list hx;have hlen:=r.length;refine ⟨"list", _,slot_list_getitem.lookup,ht.isList.typeIs,?_⟩;refine wpAny_getItem_list_slice ht.isList hs pl pu .none (by simp) ?_ (by rw [Iy] <;> omega);rw [kU,<-hlen];refine ⟨.ref s.heap.objs.size,_,I.laid (t':=s.toks) (o:=.lst (vf xs lo hi)) (fun b ob q=>Iw _ q) (Iv _) ?_,rfl,q _ (I.hok.fresh (Iv _))⟩;exact ⟨IY (jV xs lo hi) hz,_,0,(r.drop (HT.sIx xs.length 0 lo)).take (HT.sIx xs.length xs.length hi - HT.sIx xs.length 0 lo),IX _ rfl⟩
theorem ma:bM X (.type "list") (fun xs H Q=>∃ p ys,xs=[.ref p]/\(SqL X.K H p ys\/SqT X.K H p ys)/\∀ l,H l=none->Q (.ref l) (upd H l (.lst ys))):=by
 intro pins s σ H xs us Q I r h;obtain ⟨p,ys,rfl,hq,q⟩:=h;obtain ⟨u,rfl,rx⟩:=vals1 r;cases rx;have fin:∀ (its:List Value),Vals ys its->ys.length<=sizeLine->∀ (h':Heap) (c':Nat),(∀ b o',s.heap.get? b=some o'->h'.get? b=some o') ->
   h'.get? s.heap.objs.size=some { cls:=.type "list", dict:=none,data:=.seq its.toArray c',slots:=#[] }->EP X pins σ Q (.ref s.heap.objs.size) { s with heap:=h' }:=fun its r' hz h' c' kp e =>
  ⟨.ref s.heap.objs.size,_,I.laid (t':=s.toks) kp (Iv _) (show bN X.prog X.w _ h' _ (.lst ys) from ⟨hz,its,c',r',e⟩),rfl,q _ (I.hok.fresh (Iv _))⟩
 rcases hq with hq | hq
 ·obtain ⟨its,r',pl,hz⟩:=I.list hq;have hlen:=r'.length;obtain ⟨o,ho,hc,n,hd⟩:=pl.isList;exact call_list_seq p (.inl rfl) ho hc hd (fun h' c' kp e=>fin its r' hz h' c' kp e) (by simp only [Iy] <;> omega)
 ·obtain ⟨its,r',pl,hz⟩:=I.tuple hq;have hlen:=r'.length;obtain ⟨o,ho,hc,n,hd⟩:=pl;exact call_list_seq p (.inr rfl) ho hc hd (fun h' c' kp e=>fin its r' hz h' c' kp e) (by simp only [Iy] <;> omega)
theorem lF:bM X (.type "tuple") (fun xs H Q=>∃ p ys,xs=[.ref p]/\((SqL X.K H p ys/\∀ l,H l=none->Q (.ref l) (upd H l (.tup ys)))\/(SqT X.K H p ys/\Q (.ref p) H))):=by
 intro pins s σ H xs us Q I r h;obtain ⟨p,ys,rfl,h⟩:=h;obtain ⟨u,rfl,rx⟩:=vals1 r;cases rx;rcases h with ⟨hq,q⟩ | ⟨hq,q⟩
 ·obtain ⟨its,r',pl,hz⟩:=I.list hq;have hlen:=r'.length;refine call_tuple_list pl.isList (fun h' kp=>?_) (by simp only [Iy] <;> omega);have I1:Inv X pins σ H { s with heap:=h' }:=I.kept (t':=s.toks) kp;have I2:Inv X pins σ (upd H h'.objs.size (.tup ys)) { s with heap:=h'.push { cls:=.type "tuple", data:=.seq its.toArray } } :=
   I1.laid (t':=s.toks) (fun b o e=>Iw _ e) (Iv _) (show bN X.prog X.w _ _ _ (.tup ys) from ⟨hz,its,r',IsTup.new _ _⟩)
  exact ⟨.ref h'.objs.size,_,I2,rfl,q _ (I1.hok.fresh (Iv _))⟩
 ·obtain ⟨its,r',pl,hz⟩:=I.tuple hq;exact call_tuple_same pl ⟨.ref p,H,I,rfl,q⟩
def tyV (K:Fg) (T:String) (x:V) (H:Hp):Prop:=match x with
 | .str _=>T = "str"
 | .int _=>T = "int"
 | .ref p=>(T = "list" /\ ∃ xs,SqL K H p xs)\/(T = "tuple" /\ ∃ o,K.lookup p=some o/\o.cls=.type "tuple" /\ o.dict=none) \/
   (T = "dict" /\ ((∃ kvs,H p=some (.dK kvs))\/(∃ kvs,H p=some (.dT kvs))\/∃ ep xs,H p=some (.dD ep xs)))\/(T = "set" /\ ∃ S n,H p=some (.set S n))
 | _=>False
def tBM (K:Fg) (T:String) (r:V->List V->Hp->VK->Prop) (to:TE) (t:TA):TE:=fun σ H Q=>to σ H fun x H1=>tyV K T x H1/\t σ H1 fun xs H2=>r x xs H2 Q
variable {o e:Expr} {es:List Expr} {to:TE} {t:TA} {name:Str} {apos cpos:Pos} {T id:String} {r:V->List V->Hp->VK->Prop}
end
end L2
namespace L2
open PySem PySem.Spec PyProof.Rows
theorem Vals.dropLast {xs:List V} {us:List Value} (h:Vals xs us):Vals xs.dropLast us.dropLast:=by
 induction h with
 | nil=>exact .nil
 | cons r t ih =>
  cases t with
  | nil=>exact .nil
  | cons q t'=>exact .cons r ih
section
variable {X:Cx} {pins:List (Addr×Obj)} {σ:St} {H:Hp} {s:Shared} {l b:Addr} {xs ys zs:List V}
theorem Inv.HV {its:List Value} {t':Nat} (I:Inv X pins σ H s) (hv:Vals ys its) (hz:ys.length<=sizeLine) :
  Inv X pins σ (upd H s.heap.objs.size (.lst ys)) { s with heap:=s.heap.push { cls:=.type "list", data:=.seq its.toArray },toks:=t' } :=
 I.laid (fun _ _ q=>Iw _ q) (Iv _) ⟨hz,its,0,hv,IX _ rfl⟩
theorem Inv.fresh (I:Inv X pins σ H s):H s.heap.objs.size=none:=I.hok.fresh (Iv _)
end
section
variable {X:Cx}
end
section
variable {prog:Program} {w:World} {A:Around} {E:Value->Shared->Prop} {s:Shared}
set_option maxRecDepth 100000 in
end
section
variable {X:Cx}
end
end L2
namespace L2
open PySem PySem.Spec PyProof.Rows
section
variable {κ:Type} [DecidableEq κ]
def putK (kvs:List (κ×V)) (k:κ) (v:V):List (κ×V) :=
 if (kvs.any fun kv=>decide (kv.1=k))=true then kvs.map (fun kv=>if kv.1=k then (kv.1,v) else kv) else kvs++[(k,v)]
theorem nK (kvs:List (κ×V)) (k:κ) (v:V):(putK kvs k v).length<=kvs.length+1:=by
 unfold putK;split
 ·rw [Ig];omega
 ·rw [Ic,IH,JL];omega
theorem KV.any {kvs:List (κ×V)} {vs:List (κ×Value)} (r:KV kvs vs) (k:κ):(kvs.any fun kv=>decide (kv.1=k))=vs.any fun kv=>decide (kv.1=k):=by
 unfold KV at r;induction r with
 | nil=>rfl
 | cons h t ih=>rw [List.any_cons,List.any_cons,ih,h.1]
theorem KV.Hw {kvs:List (κ×V)} {vs:List (κ×Value)} (r:KV kvs vs) (k:κ) {y:V} {u:Value} (ry:RelV y u) :
  KV (kvs.map fun kv=>if kv.1=k then (kv.1,y) else kv) (vs.map fun kv=>if kv.1=k then (kv.1,u) else kv):=by
 unfold KV at r ⊢;induction r with
 | nil=>exact .nil
 | @cons p q ps qs h t ih =>
  rw [Jj,Jj];refine .cons ?_ ih;obtain ⟨h1,h2⟩:=h;by_cases e:p.1=k
  ·rw [Ip e,Ip (h1.symm.trans e)];exact ⟨h1,ry⟩
  ·rw [Im e,Im (fun z=>e (h1.trans z))];exact ⟨h1,h2⟩
theorem KV.put {kvs:List (κ×V)} {vs:List (κ×Value)} (r:KV kvs vs) (k:κ) {y:V} {u:Value} (ry:RelV y u):KV (putK kvs k y) (stored vs k u):=by
 unfold putK stored;rw [r.any k];by_cases e:(vs.any fun kv=>decide (kv.1=k))=true
 ·rw [Ip e,Ip e];exact r.Hw k ry
 ·rw [Im e,Im e];exact Paired.snoc r ⟨rfl,ry⟩
end
theorem Ea {P:Program} {w:World} {k:Key} {u:Value} (r:RelV (kV k) u):(bO P w).is k u=true:=by
 cases k with
 | inl i=>obtain ⟨t,e⟩:=(show ∃ t,u=Value.int i t from r);subst e;exact nJ P w i t
 | inr x=>obtain ⟨t,e⟩:=(show ∃ t,u=Value.str x t from r);subst e;exact oj P w x t
section
variable {P:Program} {w:World} {H:Hp} {h:Heap} {a:Addr}
end
section
variable {X:Cx} {pins:List (Addr×Obj)} {σ:St} {H:Hp} {s:Shared} {a:Addr} {y v:V} {u r:Value} {o:Option V} {A:Around} {E:Value->Shared->Prop}
theorem Inv.big (I:Inv X pins σ H s):sysModules < s.heap.objs.size:=by
 have h:mainGlobals < s.heap.objs.size:=(I.mod.glob.keeps I.bk).lt;exact Nat.lt_trans (by decide) h
theorem oF {h':Heap} {t':Nat} {ob:HO} (I:Inv X pins σ H s) (mu:Mut (H a)) (hs:Heap.SameBut a s.heap h') (he:∃ q,h'.get? a=some q) (new:bN X.prog X.w (upd H a ob) h' a ob) :
  Inv X pins σ (upd H a ob) { s with heap:=h',toks:=t' } :=
 I.write (x:=a) (e:=a) mu (.inl rfl) (fun b q hb z=>(hs.2 b hb).trans z) he new
end
section
variable {X:Cx} {pins:List (Addr×Obj)} {σ:St} {H:Hp} {s:Shared} {a:Addr} {kvs:List (Key×V)} {k:Key} {u:Value} {A:Around} {E:Value->Shared->Prop}
end
def GJ (i:Expr):Prop:=∀ ov iv,subscripted i false ov iv=operate [ov,iv] (getItem ov iv)
theorem yu {prog:Program} {w:World} {A:Around} {E:Value->Shared->Prop} {s:Shared} {env:Env} {value slice:Expr} {pos:Pos} {T id:String} {Q:Value->Shared->Prop}
  (hl:typeLookup (.type T) "__getitem__" = pure (some (.builtin id))) (hs:GJ slice)
  (h:wpAny (model prog w) A (eval value env) (fun o s₁=>wpAny (model prog w) A (eval slice env) (fun i s₂=>s₂.TypeIs o T/\wpAny (model prog w) A (getItem o i) Q E s₂) E s₁) E s) :
  wpAny (model prog w) A (eval (.Subscript value slice pos) env) Q E s:=by
 refine Subscript_ (Jb h (fun o s₁ h₁=>Jb h₁ (fun i s₂ h₂=>?_) fun _ _ x=>x) fun _ _ x=>x);obtain ⟨hT,h₂⟩:=h₂;unfold subscriptTail;refine Ib ?_;rw [getitemInPython_of_ne hT.not_modules];refine Ib (wpAny_specialOf hT hl ?_);have fin:wpAny (model prog w) A (subscripted slice false o i) (fun r s₃=>wpAny (model prog w) A (letTemporaryGo value o r>>=fun _=>pure r) Q E s₃) E s₂:=by
  rw [hs o i];exact wpAny_operating (Jb h₂ (fun r s₃ h₃=>Ib (wpAny_letTemporaryGo (Il h₃))) fun _ _ x=>x)
 first
  | exact Il (Ib fin)
  | exact Ib (Il (Ib fin))
  | exact Ib fin
section
variable {X:Cx} {o i e value:Expr} {pos pos' tpos:Pos} {td ty tv:TE}
end
section
variable {X:Cx} {pos:Pos}
end
def pE:List (TE×TE)->St->Hp->(List (V×V)->Hp->Prop)->Prop
 | [],_,H,Q=>Q [] H
 | (tk,tv) :: r,σ,H,Q=>tk σ H fun x H1=>tv σ H1 fun y H2=>pE r σ H2 fun ps H3=>Q ((x,y) :: ps) H3
abbrev VV:List (V×V)->List (Value×Value)->Prop:=Paired fun p q=>RelV p.1 q.1/\RelV p.2 q.2
def PPs (X:Cx) (pos:Pos) (keys:List (Option Expr)) (values:List Expr) (trs:List (TE×TE)):Prop :=
 ∀ (pins:List (Addr×Obj)) (s:Shared) (σ:St) (H:Hp) (Q:List (V×V)->Hp->Prop),Inv X pins σ H s->pE trs σ H Q ->
  wpAny (model X.prog X.w) X.A (evalPairs (pairTrees keys values X.env pos)) (fun vs s'=>∃ ps H',Inv X pins σ H' s'/\VV ps vs/\Q ps H') X.xe s
theorem zd {X:Cx} {pos:Pos}:PPs X pos [] [] []:=fun pins s σ H Q I h=>pairTrees_nil_walk ⟨[],H,I,.nil,h⟩
theorem wo {X:Cx} {pos:Pos} {k v:Expr} {ks:List (Option Expr)} {vs:List Expr} {tk tv:TE} {trs:List (TE×TE)} (hk:PE X k tk) (hv:PE X v tv) (hr:PPs X pos ks vs trs) :
  PPs X pos (some k :: ks) (v :: vs) ((tk,tv) :: trs):=fun pins s σ H Q I h =>
 pairTrees_cons_walk (thn (hk pins s σ H _ I h) fun u s1 ⟨x,H1,I1,rx,q1⟩=>thn (hv pins s1 σ H1 _ I1 q1) fun w2 s2 ⟨y,H2,I2,ry,q2⟩ =>
  thn (hr pins s2 σ H2 _ I2 q2) fun ws s3 ⟨ps,H3,I3,rel,q3⟩=>⟨(x,y) :: ps,H3,I3,.cons ⟨rx,ry⟩ rel,q3⟩)
def d4 (kvs more:List (Key×V)):List (Key×V):=more.foldl (fun acc kv=>putK acc kv.1 kv.2) kvs
theorem KV.merge:∀ {more:List (Key×V)} {rs:List (Key×Value)} {kvs:List (Key×V)} {vs:List (Key×Value)},KV more rs->KV kvs vs->KV (d4 kvs more) (merged vs rs):=by
 intro more rs kvs vs r;unfold KV at r;induction r generalizing kvs vs with
 | nil=>intro q;exact q
 | @cons p q ps qs h t ih =>
  intro r0;have e:KV (putK kvs p.1 p.2) (stored vs q.1 q.2):=by
   have:=r0.put p.1 h.2;rw [<- h.1];exact this
  exact ih e
theorem fN:∀ (more kvs:List (Key×V)),(d4 kvs more).length<=kvs.length+more.length
 | [],kvs=>by show kvs.length<=kvs.length+0;omega
 | p :: r,kvs=>by
  have h1:=fN r (putK kvs p.1 p.2);have h2:=nK kvs p.1 p.2;show (d4 (putK kvs p.1 p.2) r).length<=_;rw [IH];omega
theorem kh {P:Program} {w:World}:∀ {kvs:List (Key×V)} {ws:List (Value×Value)},VV (kvs.map fun kv=>(kV kv.1,kv.2)) ws->∃ rs,Carries (bO P w) ws rs/\KV kvs rs
 | [],_,r=>by rw [List.map_nil] at r;cases r;exact ⟨[],True.intro,.nil⟩
 | p :: kvs,_,r=>by
  rw [Jj] at r;cases r with
  | @cons a b as bs h t =>
   obtain ⟨rs,c,q⟩:=kh (P:=P) (w:=w) t;obtain ⟨b1,b2⟩:=b;exact ⟨(p.1,b2) :: rs,⟨Ea h.1,rfl,c⟩,.cons ⟨rfl,h.2⟩ q⟩
section
variable {X:Cx} {pins:List (Addr×Obj)} {σ:St} {H:Hp} {s:Shared} {a:Addr} {y d:V} {u r:Value} {o:Option V} {A:Around} {E:Value->Shared->Prop}
end
section
variable {X:Cx} {o e f:Expr} {apos cpos:Pos} {td ty tx:TE}
end
section
variable {X:Cx} {pins:List (Addr×Obj)} {σ:St} {H:Hp} {s:Shared} {a:Addr} {kvs:List (Key×V)} {A:Around} {E:Value->Shared->Prop}
end
section
variable {X:Cx} {pins:List (Addr×Obj)} {σ:St} {H:Hp} {s:Shared} {a:Addr} {y:V} {u:Value} {A:Around} {E:Value->Shared->Prop}
end
end L2
namespace Att
open PySem PySem.W PySem.Calls PyProof.Rows
theorem jI {P:Params} {h:Heap}:∀ (ns:List Int) (vs:List Value),WellAll P h vs (ns.map WData.int)->IntsAre vs ns:=by
 intro ns;induction ns with
 | nil =>
  intro vs w;rw [List.map_nil] at w;cases w;exact .nil
 | cons n ns ih =>
  intro vs w;rw [Jj] at w;cases w with
  | cons a b =>
   cases a;exact .cons _ _ (ih _ b)
theorem uS {l:OpenLaw} {n:Nat} (hn:l.most=some n) {P:Params} {h:Heap} {args:List WData} {vals:List Value}
  (hpre:l.row.toRowW.claim.pre args=true) (hwl:WellAll P h vals args) :
  ∃ a vs ns,vals=[Value.ref a]/\args=[WData.list (ns.map WData.int)]/\h.get? a=some { cls:=.type "list", data:=.seq vs.toArray }/\IntsAre vs ns/\ns.length<=n:=by
 have hsh:WShape.hasAll [] args [.list .int]=true:=(pre_splitW hpre).1;have hc:l.pre.holds [] { args:=args }=true:=(pre_splitW hpre).2;obtain ⟨d,r,rfl,h1,h2⟩:=hasAllW_cons hsh;obtain rfl:=hasAllW_nil h2;obtain ⟨xs,rfl,h3⟩:=hasW_list h1;obtain ⟨ns,rfl⟩:=items_int h3;have hlen:ns.length<=n:=by
  unfold OpenLaw.pre at hc;have h4:(WTm.not (.lt (.lit (.int (n:Int))) (.len (.arg 0)))).holds [] { args:=[.list (ns.map .int)] }=true:=by
   have h4:=(holds_andW hc).1;rw [hn] at h4;exact h4
  have h5:=condW_of h4 (w_not (w_lt w_lit (w_len_list (w_arg rfl))));rw [Ig] at h5;refine Nat.le_of_not_lt fun q=>?_;have q':(n:Int) < ((ns.length:Nat):Int):=by omega
  first
   | (rw [IP q'] at h5;exact absurd h5 (by decide))
   | (simp at h5;omega)
 cases hwl with
 | cons w1 w2 =>
  cases w2;cases w1 with
  | list ho hall=>exact ⟨_,_,ns,rfl,rfl,ho,jI ns _ hall,hlen⟩
theorem uT (l:OpenLaw) (args:List WData):l.row.toRowW.claim.post args (.bool true) args=true :=
 postW_of (r:=l.row.toRowW) (X:=(true==true))
  (show WShape.has [] (.bool true) .bool=true by first | rfl | decide | simp [WShape.has,WShape.arms,WShape.armsAll])
  (show (WTm.eq .res (.lit (.bool true))).value [] { args:=args,res:=some (.bool true),after:=args }=some (.bool (true==true)) from w_eq_bool (w_res rfl) w_lit) rfl
theorem oO {l:OpenLaw} {n:Nat} {q:Program} {loose:List Str} {XP:(Str->Option Value)->Heap->Prop} {YP:World->Heap->Prop} {d:DefRec}
  (hn:l.most=some n) (hdf:d.params.defaults=[])
  (call:∀ (w:World) (s₀ s₁:Shared) (mg mb:Str->Option Value) (fa:Addr) (o:Obj) (pm cd doc:Value) (a:Addr) (vs:List Value) (ns:List Int),
   Ground q loose [] XP w s₀ mg mb s₁.heap->YP w s₁.heap ->
   s₁.heap.get? fa=some o->o.data=.func (docDef d.name d.params d.body d.scope pm cd doc)->s₁.heap.CodeRec cd d.name->mg d.name=some (.ref fa) ->
   s₁.heap.get? a=some { cls:=.type "list", data:=.seq vs.toArray }->IntsAre vs ns->ns.length<=n->s₁.gens=#[] ->
   codeAny (model l.prog w) callerA (.call (.ref fa) ⟨[.ref a],[]⟩) (fun r s'=>r=.ok (.ret (.bool true))/\OldK s₁.heap s'.heap/\s'.os=s₁.os/\AllBare s'.gens) s₁) :
  WalkO q loose XP YP l.row.toRowW d [] (fun f vs=>PySem.call f vs):=by
 intro w s₀ s₁ mg mb G Y fa o pm cd doc dV kV ho hd hcd hD hmg hg args vals as hpre hlay hrd hwl hlo;obtain rfl:dV=.none:=Dflts.none hD hdf;obtain rfl:kV=.none:=Dflts.noKw hD;obtain ⟨a,vs,ns,rfl,rfl,hobj,hints,hlen⟩:=uS hn hpre hwl;refine enter_call (codeAny_mono (call w s₀ s₁ mg mb fa o pm cd doc a vs ns G Y ho (fd_plain hd) hcd hmg hobj hints hlen hg) fun r s' hq=>?_);obtain ⟨rfl,h2,h3,h4⟩:=hq;exact ⟨.inl ⟨.bool true,.bool true,[],rfl,fun _=>rfl,.bool true,uT l _,fun _=>⟨List.Pairwise.nil,fun _ hm=>(nomatch hm)⟩⟩,h2,h3,h4⟩
section
variable {prog:Program} {w:World} {A:Around} {E:Value->Shared->Prop} {s:Shared} {K:Frag}
end
end Att
namespace L2
open PySem PySem.Spec PyProof.Rows
theorem lU:∀ {vs:List Value} {ns:List Int},IntsAre vs ns->Vals (ns.map V.int) vs
 | _,_,.nil=>.nil
 | _,_,.cons n t h=>.cons ⟨t,rfl⟩ (lU h)
def DC (H:Hp):Prop:=∀ b,H b=none\/∃ o xs,H b=some (.frz o (.lst xs))
theorem wG {P:Program} {w:World} {K:Fg} {mg mb:Str->Option Value} {CX:CXT} {k:Nat} {fa a:Addr} {fd:FuncData} {x:Str} {sp:Sp} {s₁:Shared} {vs:List Value} {ns:List Int}
  (KX:K.In s₁.heap) (hns:s₁.heap.Ns mainGlobals mg) (hb:s₁.heap.Ns builtinsNs mb) (hbb:∀ x:Str,x ≠ "__name__" -> mb x=bootBuiltins x) (hlim:s₁.heap.NoLimit) (hg:s₁.gens=#[])
  (ha:s₁.heap.get? a=some { cls:=.type "list", data:=.seq vs.toArray }) (hi:IntsAre vs ns) (hl:ns.length<=sizeLine) (hr:cj k callerA)
  (F:∀ base:Heap,K.In base->base.Ns mainGlobals mg->dN P w K mg base CX k fa fd [x] sp) (hbind:∀ (s:Shared) (u:Value),BindsTo s fd ⟨[u],[]⟩ [(x,u)])
  (hsp:∀ H:Hp,DC H->SqL K H a (ns.map V.int)->sp [.ref a] H (fun v _=>v=.bl true) fun _ _ _=>False)
  (hCX:∀ H e s',CX [] H s₁ (fun _ _ _=>False) e s'->False) :
  codeAny (model P w) callerA (.call (.ref fa) ⟨[.ref a],[]⟩) (fun r s'=>r=.ok (.ret (.bool true))/\OldK s₁.heap s'.heap/\s'.os=s₁.os/\AllBare s'.gens) s₁:=by
 have rv:=lU hi;have lenV:=hi.length;have core:∀ H:Hp,DC H->SqL K H a (ns.map V.int)->HOk P w H s₁.heap->(∀ b,H b≠none->b=a)->(H a≠none->K.lookup a=none) ->
   codeAny (model P w) callerA (.call (.ref fa) ⟨[.ref a],[]⟩) (fun r s'=>r=.ok (.ret (.bool true))/\OldK s₁.heap s'.heap/\s'.os=s₁.os/\AllBare s'.gens) s₁:=by
  intro H hO hS hok hA hK;have base_of:∀ {b:Addr} {o:Obj},s₁.heap.get? b=some o->H b=none->(wq s₁.heap H).get? b=some o:=fun e n=>wy e n;have noA:∀ {b:Addr} {o:Obj} {es:Array DictEntry} {ep:Nat},s₁.heap.get? b=some o->o.data=.dict es ep->H b=none:=fun {b o es ep} e d=>by
   cases q:H b with
   | none=>rfl
   | some u =>
    have e':b=a:=hA b (by rw [q];simp);subst e';rw [ha] at e;cases e;have d':Data.seq vs.toArray _=Data.dict es ep:=d;cases d'
  have nsK:∀ {b:Addr} {m:Str->Option Value},s₁.heap.Ns b m->(wq s₁.heap H).Ns b m:=fun {b m} ⟨o,es,ep,e,d,r⟩=>⟨o,es,ep,base_of e (noA e d),d,r⟩
  have hKb:K.In (wq s₁.heap H):=fun b o e=>base_of (KX b o e) (by
   cases q:H b with
   | none=>rfl
   | some u =>
    have e':b=a:=hA b (by rw [q];simp);subst e'
    rw [hK (by rw [q];simp)] at e;cases e)
  have hM:Mod K mg (wq s₁.heap H):=⟨hKb,nsK hns,⟨mb,nsK hb,hbb⟩,let ⟨mc,h1,h2⟩:=hlim;⟨mc,nsK h1,h2⟩⟩;have e0:Dz P w K mg (wq s₁.heap H) callerA [] s₁ H:=⟨rfl,hM,fun b o e=>zB e,Nat.le_of_eq (uK _ _),trivial,fun b hb=>absurd (show b∈([]:List Addr) from hb) (by simp),hok,.of_eq hg⟩;refine codeAny_mono ((F _ hKb (nsK hns)).run callerA [] s₁ H ⟨[.ref a],[]⟩ [.ref a] [.ref a] _ _ hr e0 (hbind s₁ (.ref a)) (.cons rfl .nil) (hsp H hO hS)) fun r s' h=>?_;cases r with
  | error e=>exact (hCX H e s' h).elim
  | ok fl =>
   cases fl with
   | next=>exact False.elim h
   | brk=>exact False.elim h
   | cont=>exact False.elim h
   | ret u =>
    obtain ⟨v,H',os,bare,un,hok',r',q⟩:=h;have q':v=.bl true:=q;subst q';obtain rfl:u=Value.bool true:=r';refine ⟨rfl,OldK.of_keep fun b o e=>?_,os,bare⟩;cases q:H b with
    | none=>exact un.keep b o e q (by intro z;exact absurd (show b∈([]:List Addr) from z) (by simp)) (by simp)
    | some u =>
     rcases hO b with z | ⟨ob,xs,z⟩
     ·rw [q] at z;cases z
     ·have z2:=un.pI b ob _ z;obtain ⟨e1,_⟩:=hok b _ z;obtain ⟨e2,_⟩:=hok' b _ z2;rw [e] at e1;cases e1;exact e2
 cases hk:K.lookup a with
 | some o =>
  have e:=KX a o hk;rw [ha] at e;cases e;refine core (fun _=>none) (fun _=>.inl rfl) (.inr ⟨_,vs.toArray,_,hk,rfl,rfl,rfl,by rw [Iy,lenV];exact hl,by simpa using rv⟩) (fun b u z=>by have z':(none:Option HO)=some u:=z;cases z') (fun b z=>absurd rfl z) fun z=>absurd rfl z
 | none =>
  refine core (fun b=>if b=a then some (.frz { cls:=.type "list", data:=.seq vs.toArray } (.lst (ns.map V.int))) else none) (fun b=>?_) (.inl (.inr ⟨{ cls:=.type "list", data:=.seq vs.toArray },Ip rfl⟩)) (fun b u z=>?_) (fun b z=>?_) fun _=>hk
  ·by_cases hb:b=a
   ·exact .inr ⟨_,_,Ip hb⟩
   ·exact .inl (Im hb)
  ·by_cases hb:b=a
   ·have z':=(Ip hb).symm.trans z;cases z';subst hb;exact ⟨ha,by rw [Ig];exact hl,vs,_,rv,ha⟩
   ·have z':=(Im hb).symm.trans z;cases z'
  ·by_cases hb:b=a
   ·exact hb
   ·exact absurd (Im hb) z
end L2
namespace L2
open PySem PySem.Spec PyProof.Rows
abbrev KOf {K:Fg} {h:Heap} (_:K.In h):Fg:=K
theorem ya {l:PySem.W.OpenLaw} {n k:Nat} {q:Program} {loose:List Str} {XP:(Str->Option Value)->Heap->Prop} {YP:World->Heap->Prop} {d:DefRec} {K:Params->Fg} {CX:World->CXT} {sp:World->Sp} {x:Str}
  (hn:l.most=some n) (hn2:n<=sizeLine) (hdf:d.params.defaults=[]) (hr:cj k callerA)
  (hY:∀ (w:World) (h:Heap),YP w h->(K w.params).In h)
  (F:∀ (w:World) (mg:Str->Option Value) (fa:Addr) (h:Heap),(K w.params).In h->h.Ns mainGlobals mg->mg d.name=some (.ref fa) ->
   ∃ fd:FuncData,(∀ (s:Shared) (u:Value),BindsTo s fd ⟨[u],[]⟩ [(x,u)]) /\
    ∀ base:Heap,(K w.params).In base->base.Ns mainGlobals mg->dN l.prog w (K w.params) mg base (CX w) k fa fd [x] (sp w))
  (hsp:∀ (w:World) (H:Hp) (a:Addr) (ns:List Int),ns.length<=n->DC H->SqL (K w.params) H a (ns.map V.int)->sp w [.ref a] H (fun v _=>v=.bl true) fun _ _ _=>False)
  (hCX:∀ (w:World) (H:Hp) (s:Shared) (e:Value) (s':Shared),CX w [] H s (fun _ _ _=>False) e s'->False) :
  PySem.W.WalkO q loose XP YP l.row.toRowW d [] (fun f vs=>PySem.call f vs):=by
 refine Att.oO hn hdf fun w s₀ s₁ mg mb fa o pm cd doc a vs ns G Y ho hd hcd hmg hobj hints hlen hg=>?_;have KX:=hY w _ Y;obtain ⟨fd,hb,hF⟩:=F w mg fa _ KX G.T.g hmg;exact wG KX G.T.g G.T.b G.T.builtins G.T.nolimit hg hobj hints (IY hlen hn2) hr hF hb (fun H hO hS=>hsp w H a ns hlen hO hS) fun H e s'=>hCX w H s₁ e s'
theorem vE {l:PySem.W.OpenLaw} {n k:Nat} {q:Program} {loose:List Str} {XP:(Str->Option Value)->Heap->Prop} {YP:World->Heap->Prop} {d:DefRec} {K:Params->Fg} {CX:CXT} {sp:Fg->Sp} {x:Str}
  (hn:l.most=some n) (hn2:n<=sizeLine) (hdf:d.params.defaults=[]) (hr:cj k callerA)
  (hY:∀ (w:World) (h:Heap),YP w h->(K w.params).In h)
  (F:∀ (w:World) (mg:Str->Option Value) (fa:Addr) (h:Heap),(K w.params).In h->h.Ns mainGlobals mg->mg d.name=some (.ref fa) ->
   ∃ fd:FuncData,(∀ (s:Shared) (u:Value),BindsTo s fd ⟨[u],[]⟩ [(x,u)]) /\
    ∀ base:Heap,(K w.params).In base->base.Ns mainGlobals mg->dN l.prog w (K w.params) mg base CX k fa fd [x] (sp (K w.params)))
  (hsp:∀ (K:Fg) (H:Hp) (a:Addr) (ns:List Int),ns.length<=n->DC H->SqL K H a (ns.map V.int)->sp K [.ref a] H (fun v _=>v=.bl true) fun _ _ _=>False)
  (hCX:∀ (H:Hp) (s:Shared) (e:Value) (s':Shared),CX [] H s (fun _ _ _=>False) e s'->False) :
  PySem.W.WalkO q loose XP YP l.row.toRowW d [] (fun f vs=>PySem.call f vs) :=
 ya (K:=K) (CX:=fun _=>CX) (sp:=fun w=>sp (K w.params)) hn hn2 hdf hr hY F (fun w H a ns h1 h2 h3=>hsp (K w.params) H a ns h1 h2 h3) fun _ H s e s'=>hCX H s e s'
end L2
namespace L2
open PySem PySem.Spec PyProof.Rows
def ai (s:Stmt):Arguments:=match s with
 | .FunctionDef _ a _ _ _ _ _ _ _ _=>a
 | _=>{ posonlyargs:=[],args:=[],vararg:=none,kwonlyargs:=[],kw_defaults:=[],kwarg:=none,defaults:=[] }
def ag (s:Stmt):List Stmt:=match s with
 | .FunctionDef _ _ b _ _ _ _ _ _ _=>b
 | _=>[]
def aa (s:Stmt):Scope:=match s with
 | .FunctionDef _ _ _ _ _ _ sc _ _ _=>sc
 | _=>{ kind:=.function,names:=[],isGenerator:=false,isCoroutine:=false }
abbrev CX0:CXT:=fun _ _ _ _ _ _=>False
abbrev E0:XK:=fun _ _ _=>False
theorem aR {X:Cx}:Passes CX0 X E0:=fun _ _ _ _ _ _ _ h=>h.elim
structure Fun (K:Fg) (x qual:Str) (st:Stmt) (f:Addr) (fd:FuncData):Prop where
 ex:∃ (oc:Value) (od:Option Addr) (kV doc pm:Value) (an:Option Addr) (cdv ct:Value) (osl:Array (Option Value)),
  fd=PySem.W.fnOf x qual (ai st) (ag st) (aa st) .none kV doc pm an cdv ct/\K.lookup f=some ⟨oc,od,.func fd,osl⟩/\PySem.W.codeIn K cdv qual=true
 kp:PySem.W.keepIn K (.ref f)=true
section
variable {P:Program} {w:World} {K:Fg} {mg:Str->Option Value} {base:Heap}
theorem Fun.ok {x qual:Str} {st:Stmt} {f:Addr} {fd:FuncData} {N ps:List Str} {k:Nat} {sp:Sp} (F:Fun K x qual st f fd) (S:aI N ps (aa st)) (len:∀ vs H Q E,sp vs H Q E->vs.length=ps.length)
  (hbody:∀ (cdv:Value) (A:Around) (outer:List Env) (s:Shared) (H:Hp) (vs:List V) (Q:VK) (E:XK),cj k (A.deeper (envOfC qual (aa st) s.heap.objs.size f cdv))->sp vs H Q E ->
   ∃ t,PSs (fh CX0 P w K mg base N qual (aa st) f cdv A outer s H E).nox (ag st) t/\t { nx:=fun _ H'=>Q .non H',rt:=Q } (start N vs) H):dN P w K mg base CX0 (k+1) f fd ps sp:=by
 obtain ⟨oc,od,kV,doc,pm,an,cdv,ct,osl,rfl,lk,hcd⟩:=F.ex;refine AZ lk hcd S len fun A outer s H vs Q E hr hsp=>?_;obtain ⟨t,h,q⟩:=hbody cdv A outer s H vs Q E hr hsp;exact ⟨t,h.nox,q⟩
theorem Fun.binds {x qual:Str} {st:Stmt} {f:Addr} {fd:FuncData} {ps:List Str} (F:Fun K x qual st f fd)
  (h:∀ (kV doc pm:Value) (an:Option Addr) (cdv ct:Value) (us:List Value),us.length=ps.length->bindArgs (PySem.W.fnOf x qual (ai st) (ag st) (aa st) .none kV doc pm an cdv ct) ⟨us,[]⟩=pure (ps.zip us)):Binds K fd ps []:=by
 obtain ⟨oc,od,kV,doc,pm,an,cdv,ct,osl,rfl,lk,hcd⟩:=F.ex;exact .all (h kV doc pm an cdv ct)
theorem az {x qual:Str} {st:Stmt} {f:Addr} {oc:Value} {od an:Option Addr} {osl:Array (Option Value)} {kV doc pm cdv ct:Value} (l:K.lookup f=some ⟨oc,od,.func (PySem.W.fnOf x qual (ai st) (ag st) (aa st) .none kV doc pm an cdv ct),osl⟩)
  (c:PySem.W.codeIn K cdv qual=true) (k:PySem.W.keepIn K (.ref f)=true):Fun K x qual st f (PySem.W.fnOf x qual (ai st) (ag st) (aa st) .none kV doc pm an cdv ct):=⟨⟨oc,od,kV,doc,pm,an,cdv,ct,osl,rfl,l,c⟩,k⟩
end
section
variable {X:Cx}
end
def aY (H H':Hp):Prop:=∀ b o,H b=some o->H' b=some o
theorem aY.refl (H:Hp):aY H H:=fun _ _ h=>h
theorem aY.trans {H H1 H2:Hp} (a:aY H H1) (b:aY H1 H2):aY H H2:=fun c o h=>b c o (a c o h)
theorem aY.free {H H':Hp} (e:aY H H') {l:Addr} (h:H' l=Option.none):H l=Option.none:=by
 cases q:H l with
 | none=>rfl
 | some o =>
  rw [e l o q] at h;cases h
end L2
namespace L2
open PySem PySem.Spec PyProof.Rows
section
variable {X:Cx}
end
section
variable {κ:Type} [DecidableEq κ]
end
end L2
end
section
namespace L2
open PySem PySem.Spec PyProof.Rows
def ni (env:Env):List (Str×NameKind)->List (Str×Addr)->List (Str×Addr)
 | [],cs=>cs
 | (n,k) :: r,cs=>ni env r (if k==.free then (n,(env.cells.lookup n).getD 0) :: cs else cs)
theorem eJ {env:Env}:∀ (ns:List (Str×NameKind)) (cs:List (Str×Addr)),(∀ y∈ns,y.2=.free->∃ c,env.cells.lookup y.1=some c) ->
  (forIn ns cs (fun (x:Str×NameKind) (r:List (Str×Addr))=>if (x.2==NameKind.free)=true then (cellOf env x.1>>=fun a=>pure (ForInStep.yield ((x.1,a) :: r)):Sem _) else pure (ForInStep.yield r)):Sem (List (Str×Addr)))=pure (ni env ns cs)
 | [],_,_=>rfl
 | (n,k) :: r,cs,h=>by
  rw [List.forIn_cons];by_cases hk:k=.free
  ·subst hk;obtain ⟨c,e⟩:=h (n,.free) Ik rfl;have e':env.cells.lookup n=some c:=e;have q:=eJ (env:=env) r ((n,c) :: cs) fun y hy=>h y (Io _ hy);have z:ni env ((n,NameKind.free) :: r) cs=ni env r ((n,c) :: cs):=by
    show ni env r (if (NameKind.free==NameKind.free)=true then (n,(env.cells.lookup n).getD 0) :: cs else cs)=_;rw [Ip (by decide),e'];rfl
   have k:cellOf env n=pure c:=by
    unfold cellOf;rw [e']
   rw [z,<-q];dsimp only;rw [Ip (by decide),k];rfl
  ·have hb:(k==NameKind.free)=false:=by simpa using hk
   have q:=eJ (env:=env) r cs fun y hy=>h y (Io _ hy);have z:ni env ((n,k) :: r) cs=ni env r cs:=by
    show ni env r (if (k==NameKind.free)=true then (n,(env.cells.lookup n).getD 0) :: cs else cs)=_;rw [hb,Im IE]
   rw [z,<-q];dsimp only;rw [hb,Im IE];rfl
theorem kz {scope:Scope} {env:Env} (h:∀ y∈scope.names,y.2=.free->∃ c,env.cells.lookup y.1=some c):closureFor scope env=pure (ni env scope.names []):=by
 have q:=eJ (env:=env) scope.names [] h;unfold closureFor;show (forIn scope.names [] _>>=_:Sem _)=_;refine Eq.trans (congrArg (fun m:Sem (List (Str×Addr))=>m>>=fun r=>pure r) (Eq.trans ?_ q)) rfl;rfl
theorem pK {env:Env}:∀ (ns:List (Str×NameKind)) (cs:List (Str×Addr)),(∀ y∈ns,y.2=.free->∃ c,env.cells.lookup y.1=some c)->(∀ y c,cs.lookup y=some c->env.cells.lookup y=some c) ->
  ∀ y c,(ni env ns cs).lookup y=some c->env.cells.lookup y=some c
 | [],_,_,g,y,c,e=>g y c e
 | (n,k) :: r,cs,h,g,y,c,e=>by
  refine pK r _ (fun z hz=>h z (Io _ hz)) (fun z d e'=>?_) y c e;by_cases hk:(k==NameKind.free)=true
  ·rw [Ip hk] at e';rw [KU] at e';obtain ⟨c',ec⟩:=h (n,k) Ik (by simpa using hk);have ec':env.cells.lookup n=some c':=ec;cases hz:z==n with
   | true =>
    rw [hz] at e';have hzn:z=n:=by simpa using hz
    subst hzn;rw [ec'] at e' ⊢;exact e'
   | false=>rw [hz] at e';exact g z d e'
  ·rw [Im hk] at e';exact g z d e'
theorem lL {env:Env} {y:Str}:∀ (ns:List (Str×NameKind)) (cs:List (Str×Addr)),(∃ c,cs.lookup y=some c)->∃ c,(ni env ns cs).lookup y=some c
 | [],_,h=>h
 | (n,k) :: r,cs,h=>by
  refine lL r _ ?_;by_cases hk:(k==NameKind.free)=true
  ·rw [Ip hk,KU];cases y==n
   ·exact h
   ·exact ⟨_,rfl⟩
  ·rw [Im hk];exact h
theorem iU {env:Env} {y:Str}:∀ (ns:List (Str×NameKind)) (cs:List (Str×Addr)),(y,NameKind.free)∈ns->∃ c,(ni env ns cs).lookup y=some c
 | [],_,h=>by simp at h
 | (n,k) :: r,cs,h=>by
  rcases Iz.mp h with e | h
  ·cases e;show ∃ c,(ni env r (if (NameKind.free==NameKind.free)=true then (y,(env.cells.lookup y).getD 0) :: cs else cs)).lookup y=some c;refine lL r _ ⟨(env.cells.lookup y).getD 0,?_⟩;rw [Ip (by decide),KU,Jr]
  ·exact iU r _ h
theorem cO {env:Env} {y:Str} {k:NameKind}:∀ (ns:List (Str×NameKind)),
  (ns.map fun (n,k)=>if (k==NameKind.free&&env.scope.kind==.function&&env.kindOf n==some .cell) then (n,NameKind.cell) else (n,k)).lookup y=some k->(y,k)∈ns\/(k=.cell/\(y,NameKind.free)∈ns)
 | [],h=>by simp at h
 | (n,k') :: r,h=>by
  have ih:=fun q=>cO (env:=env) (y:=y) (k:=k) r q;rw [Jj] at h;have h2:=h;have again:=fun q=>(ih q).elim (fun q=>Or.inl (Io (n,k') q)) fun q=>(Or.inr ⟨q.1,Io (n,k') q.2⟩:(y,k)∈(n,k') :: r\/(k=.cell/\(y,NameKind.free)∈(n,k') :: r));dsimp only at h2;clear h;by_cases hc:(k'==NameKind.free&&env.scope.kind==.function&&env.kindOf n==some .cell)=true
  ·rw [Ip hc,KU] at h2;cases hy:y==n with
   | true =>
    rw [hy] at h2;have e1:y=n:=by simpa using hy
    have hk:k'=.free:=by
     have:=hc;simp at this;exact this.1.1
    have e2:k=.cell:=(Jk h2).symm;exact .inr ⟨e2,by rw [e1,hk];exact Ik⟩
   | false=>rw [hy] at h2;exact again h2
  ·rw [Im hc,KU] at h2;cases hy:y==n with
   | true =>
    rw [hy] at h2;have e1:y=n:=by simpa using hy
    have e2:k'=k:=Jk h2;exact .inl (by rw [e1,e2];exact Ik)
   | false=>rw [hy] at h2;exact again h2
def cxB (X:Cx) (N':List Str) (scope:Scope) (C:Addr) (s3:Shared) (H3:Hp) (ex:List Addr):Cx :=
  { prog:=X.prog,w:=X.w,K:=X.K,mg:=X.mg,base:=X.base,A:=X.A,N:=N',s₀:=s3,H₀:=H3,env:=compEnvC scope (ni X.env scope.names []) C X.env,outer:=X.stack,stack:=X.stack,ex:=ex,
    fn:=fun _=>false,calm:=true,pn:=[],xe:=fun _ _=>False }
def hZ (X:Cx) (scope:Scope):List Str->List Nat->Prop
 | [],[]=>True
 | y :: ys,j :: js=>X.N[j]?=some y/\(X.env.scope.names.lookup y=some .cell/\scope.names.lookup y=some .free)/\hZ X scope ys js
 | _,_=>False
theorem hZ.get {X:Cx} {scope:Scope}:∀ {ys:List Str} {js:List Nat} {k:Nat} {y:Str},hZ X scope ys js->ys[k]?=some y->∃ j,js[k]?=some j/\X.N[j]?=some y/\X.env.scope.names.lookup y=some .cell/\scope.names.lookup y=some .free
 | [],_,_,_,_,e=>by simp at e
 | _ :: _,[],_,_,h,_=>False.elim h
 | y :: ys,j :: js,0,z,h,e=>by simp at e;subst e;exact ⟨j,rfl,h.1,h.2.1⟩
 | y :: ys,j :: js,k+1,z,h,e=>by
  obtain ⟨j',e1,e2⟩:=hZ.get (k:=k) h.2.2 (by simpa using e);exact ⟨j',by simpa using e1,e2⟩
theorem hZ.len {X:Cx} {scope:Scope}:∀ {ys:List Str} {js:List Nat},hZ X scope ys js->ys.length=js.length
 | [],[],_=>rfl
 | _ :: _,_ :: _,h=>by simp [hZ.len h.2.2]
 | [],_ :: _,h=>False.elim h
 | _ :: _,[],h=>False.elim h
def bS (js:List Nat) (σ:St):St:=js.map fun j=>(σ[j]?).getD none
structure i6 (X:Cx) (scope:Scope) (x:Str):Prop where
 kind:scope.kind=.function
 cells:∀ y∈scope.names,y.2≠.cell
 locs:∀ y∈scope.names,y.2=.local->scope.names.lookup y.1=some .local
 var:scope.names.lookup x=some .local
 free:∀ y∈scope.names,y.2=.free->X.env.scope.names.lookup y.1=some .cell
def PTs (X:Cx) (ifs:List Expr) (t:TT):Prop :=
 ∀ (pins:List (Addr×Obj)) (s:Shared) (σ:St) (H:Hp) (Q:Bool->Hp->Prop),Inv X pins σ H s->t σ H Q ->
  wpAny (model X.prog X.w) X.A (forIn ifs true fun c r=>if r=true then do let ok<-isTrue c X.env (eval c X.env);pure (ForInStep.yield ok) else pure (ForInStep.yield r)) (TP X pins σ Q) X.xe s
def wj:TT:=fun _ H Q=>Q true H
theorem yi {X:Cx}:PTs X [] wj:=fun _ _ _ H _ I h=>wpAny_tests_nil ⟨H,I,h⟩
theorem tK {X:Cx} {pins:List (Addr×Obj)} {σ:St} {H:Hp} {s3:Shared} {h1:Heap} {tk:Nat} {scope:Scope} {x:Str} {ys:List Str} {js:List Nat} {ex:List Addr} (I:Inv X pins σ H s3) (hc:X.calm=true) (B:i6 X scope x) (cap:hZ X scope ys js)
  (hns:h1.Ns s3.heap.objs.size (fun _=>none)) (hk:∀ b o,s3.heap.get? b=some o->h1.get? b=some o)
  (hex:∀ b∈ex,b ∉ frs X.stack/\b < s3.heap.objs.size/\(∀ y c,X.env.cells.lookup y=some c->c≠b)/\X.base.get? b=none) :
  Inv (cxB X (x :: ys) scope s3.heap.objs.size s3 H ex) [] (none :: bS js σ) H { s3 with heap:=h1,toks:=tk }:=by
 have hfree:∀ y∈scope.names,y.2=.free->∃ c,X.env.cells.lookup y.1=some c:=fun y hy hf=>I.ok.has y.1 (.inl (B.free y hy hf));have sub:=pK (env:=X.env) scope.names [] hfree (fun _ _ e=>by simp at e)
 refine ⟨⟨I.ok.mod,B.kind,I.ok.glob,I.ok.blt,Iv _,fun y z c h1 h2=>I.ok.inj y z c (sub _ _ h1) (sub _ _ h2),fun y hy=>?_,fun y c hf _=>?_,fun _=>I.ok.hd hc,I.ok.frames,.inl rfl,fun b hb=>?_,fun b o e=>I.bs b o e,IY I.ok.bsz I.sz,fun b o e hb=>?_,fun b hb=>(hex b hb).1,I.stack,I.lG⟩,
  rfl,I.bare,Un.kept hk,⟨_,hns,fun i y v e1 e2 e3=>?_⟩,fun y c e=>?_,I.hok.fresh (Iv _),fun y c e=>I.fg y c (sub _ _ e),fun p hp=>absurd (show p∈([]:List (Addr×Obj)) from hp) (by simp),I.hok.kept hk,?_⟩
 ·have hy:(relabel scope X.env).names.lookup y=some .cell\/(relabel scope X.env).names.lookup y=some .free:=hy;rcases hy with hy | hy
  ·rcases cO _ hy with q | ⟨_,q⟩
   ·exact absurd rfl (B.cells _ q)
   ·exact iU _ _ q
  ·rcases cO _ hy with q | ⟨q,_⟩
   ·exact iU _ _ q
   ·cases q
 ·exact absurd (show false=true from hf) (by simp)
 ·exact ⟨Jf (hex b hb).2.1,fun y c e=>(hex b hb).2.2.1 y c (sub _ _ e)⟩
 ·have e':X.base.get? b=some o:=e;have:=(hex b hb).2.2.2;rw [e'] at this;cases this
 ·cases i with
  | zero=>simp at e2
  | succ i =>
   have e1':ys[i]?=some y:=by simpa [cxB] using e1
   have e2':(bS js σ)[i]?=some (some v):=by simpa using e2
   obtain ⟨j,ej,en,ec,ef⟩:=cap.get e1';have e4:σ[j]?=some (some v):=by
    unfold bS at e2';rw [IJ,ej] at e2';simp only [K2,Option.some.injEq] at e2';cases q:σ[j]? with
    | none=>rw [q] at e2';cases e2'
    | some w=>rw [q] at e2';simp at e2';rw [e2']
   obtain ⟨m,hn,hl⟩:=I.loc;obtain ⟨u,r,l⟩:=hl j y v en e4 (.inr (.inl ec));refine ⟨u,r,.inr ?_⟩;rcases l with ⟨kl,_⟩ | ⟨kc,c,ecl,cell⟩
   ·have kl:X.env.scope.names.lookup y=some .local:=kl;rw [ec] at kl;cases kl
   ·have e3:(relabel scope X.env).names.lookup y=some .local\/(relabel scope X.env).names.lookup y=some .cell\/(relabel scope X.env).names.lookup y=some .free:=e3;refine ⟨?_,?_⟩
    ·rcases e3 with q | q | q
     ·rcases cO _ q with q | ⟨q,_⟩
      ·have:=B.locs _ q rfl;rw [ef] at this;cases this
      ·cases q
     ·exact .inl q
     ·exact .inr q
    ·have mem:(y,NameKind.free)∈scope.names:=Kj ef;obtain ⟨c',ec'⟩:=iU (env:=X.env) scope.names [] mem;have:=sub _ _ ec';rw [ecl] at this;cases this;obtain ⟨o,ho,hd⟩:=cell;exact ⟨c,ec',o,hk _ _ ho,hd⟩
 ·obtain ⟨v,o,ho,hd⟩:=I.cell y c (sub _ _ e);exact ⟨v,o,hk _ _ ho,hd⟩
 ·show (none :: bS js σ).length=(x :: ys).length;rw [IH,IH,cap.len];unfold bS;rw [Ig]
def jR (js:List Nat) (wi:TI) (tt:TT) (te:TE):TE:=fun σ H Q=>wi σ H fun J H1=>∃ W:Nat->Nat->List V->Hp->Prop,(∃ m,W 0 m [] H1)/\∀ i m acc H,W i m acc H ->
 (J.stop i H/\acc.length<=sizeLine/\∀ p,H p=none->Q (.ref p) (upd H p (.lst acc)))\/(J.go i H/\acc.length < sizeLine/\∀ x H',J.yld i H x H' ->
  tt (some x :: bS js σ) H' fun b H2=>if b=true then te (some x :: bS js σ) H2 fun y H3=>∃ m',m' < m/\W (i+1) m' (acc++[y]) H3 else ∃ m',m' < m/\W (i+1) m' acc H2)
theorem vO {M:Model} {A:Around} {α β:Type} {E E':Value->Shared->Prop} {a:α} {t:Sem α} {u:Sem β} {Q:α->Shared->Prop} {R:β->Shared->Prop} {s s':Shared} (e:t=pure a) (h:wpAny M A t Q E s) (k:Q a s->wpAny M A u R E' s'):wpAny M A u R E' s':=by
 subst e;exact fun Γ p hΓ=>k (h Γ p hΓ) Γ p hΓ
theorem pO {X:Cx} {pins:List (Addr×Obj)} {σ:St} {H:Hp} {s2:Shared} {elt iter:Expr} {x:Str} {px pos:Pos} {ifs:List Expr} {scope:Scope} {tt:TT} {te:TE} {ys:List Str} {js:List Nat} {it:Addr} {fp:List Addr} {tn:Nat->Heap->Prop} {J:It}
    {Q:VK} {E:Value->Shared->Prop} {RR:Value->Addr->Result->Shared->Prop} (hc:X.calm=true) (B:i6 X scope x) (nd:(x :: ys).Nodup) (cap:hZ X scope ys js)
    (ht:∀ C s3 H3 ex,PTs (cxB X (x :: ys) scope C s3 H3 ex) ifs tt) (he:∀ C s3 H3 ex,PE (cxB X (x :: ys) scope C s3 H3 ex) elt te)
    (I:Inv X pins σ H s2) (T:Turn X.prog X.w X.K (.Name x px) J fp it tn) (h0:tn 0 s2.heap) (hf:∀ b∈fp,wX X pins H b)
    (W:Nat->Nat->List V->Hp->Prop) (w0:∃ m,W 0 m [] H)
    (turn:∀ i m acc H,W i m acc H->(J.stop i H/\acc.length<=sizeLine/\∀ p,H p=none->Q (.ref p) (upd H p (.lst acc)))\/(J.go i H/\acc.length < sizeLine/\∀ x H',J.yld i H x H' ->
      tt (some x :: bS js σ) H' fun b H2=>if b=true then te (some x :: bS js σ) H2 fun y H3=>∃ m',m' < m/\W (i+1) m' (acc++[y]) H3 else ∃ m',m' < m/\W (i+1) m' acc H2))
    (hRR:∀ (D C:Addr) (H':Hp) (s':Shared) (m':Str->Option Value),s'.heap.Ns C m'->s2.heap.objs.size<=C->C≠D->H' C=none->Inv X pins σ H' s'->Q (.ref D) H'->RR (.ref D) C (.ok .next) s') :
    wpAny (model X.prog X.w) X.A (newList []) (fun acc s₃=>wpAny (model X.prog X.w) X.A (newFunctionEnv scope X.env.globals (ni X.env scope.names []) [] X.env.qual none .none (some X.env)) (fun cenv s₄ =>
      codeAny (model X.prog X.w) X.A (.compStart (.ListComp elt [⟨.Name x px,iter,ifs,0⟩] scope pos) 0 (.ref it) acc { cenv with scope:=relabel scope X.env }) (RR acc cenv.locals) s₄) E s₃) E s2:=by
  refine JJ (wpAny_newFunctionEnv B.cells (by intro y hy;simp at hy) (fun h1 hns hsb=>?_) B.kind);dsimp only at hns hsb ⊢;have hD:H s2.heap.objs.size=none:=I.hok.fresh (Iv _);generalize hH2:s2.heap.push { cls:=.type "list", dict:=none,data:=.seq ([]:List Value).toArray }=P2 at hns hsb ⊢;have hgetD:P2.get? s2.heap.objs.size=some { cls:=.type "list", dict:=none,data:=.seq ([]:List Value).toArray }:=by rw [<- hH2];exact IX _ rfl
  have hold:∀ b o,s2.heap.get? b=some o->P2.get? b=some o:=fun b o e=>by rw [<- hH2];exact Iw _ e
  have hsz:P2.objs.size=s2.heap.objs.size+1:=by rw [<- hH2,Heap.size_push]
  have I3:Inv X pins σ H { s2 with heap:=P2,toks:=s2.toks }:=I.kept hold;generalize hDe:s2.heap.objs.size=D at *;have keep1:∀ b o,P2.get? b=some o->h1.get? b=some o:=fun b o e=>hsb.extBut b o (Jf (IF e)) (Iw _ e);have hfp:∀ b∈fp,b < D:=fun b hb=>by
    obtain ⟨o,e,_⟩:=T.obj _ _ h0 b hb;rw [<- hDe];exact IF e
  have hstk:∀ b,b≠X.env.locals->b ∉ X.fs->b ∉ frs X.stack:=fun b h1 h2 z=>(Iz.mp (I.pV b z)).elim h1 h2;have hDl:D≠X.env.locals:=fun z=>absurd I.lt (by rw [hDe,z];exact Jo _);have hDfs:D ∉ X.fs:=I.A6 (by rw [hDe];exact Iv _);have hDc:∀ y c,X.env.cells.lookup y=some c->c≠D:=fun y c e z=>by
    obtain ⟨v,q⟩:=I.cell y c e;have:=q.lt;rw [z,hDe] at this;exact absurd this (Jo _)
  have hex:∀ b∈D :: fp,b ∉ frs X.stack/\b < ({ s2 with heap:=P2,toks:=s2.toks }:Shared).heap.objs.size/\(∀ y c,X.env.cells.lookup y=some c->c≠b)/\X.base.get? b=none:=fun b hb=>by
    rcases Iz.mp hb with rfl | hb
    · refine ⟨hstk _ hDl hDfs,by show _ < P2.objs.size;rw [hsz];exact Kg _,hDc,?_⟩;cases q:X.base.get? b with
      | none=>rfl
      | some o =>
        have:=IF (I.bk b o q);rw [hDe] at this;exact absurd this (Jo _)
    · obtain ⟨f0,f1,f2,f3,f4,f5⟩:=hf b hb;refine ⟨hstk _ f1 f2,by show _ < P2.objs.size;rw [hsz];exact Nat.lt_succ_of_lt (hfp b hb),f4,?_⟩;cases q:X.base.get? b with
      | none=>rfl
      | some o =>
        rcases f3 with z | z
        · exact absurd z (I.ok.wB b o q)
        · exact absurd (II (IF q) (IY I.ok.bsz z)) (Jo _)
  have IB:=tK (tk:=s2.toks) (ex:=D :: fp) I3 hc B cap (h1:=h1) hns keep1 hex;have hCD:P2.objs.size≠D:=by rw [hsz];exact Nat.succ_ne_self _
  have start:codeAny (model X.prog X.w) X.A (.compLoop (.ListComp elt [⟨.Name x px,iter,ifs,0⟩] scope pos) 0 (.ref it) (.ref D) (compEnvC scope (ni X.env scope.names []) P2.objs.size X.env)) (RR (.ref D) P2.objs.size) { s2 with heap:=h1,toks:=s2.toks }:=by
    obtain ⟨m0,w0⟩:=w0;refine codeAny_compLoop_tests (fun n s=>∃ i v0 H' acc its k,Inv (cxB X (x :: ys) scope P2.objs.size { s2 with heap:=P2,toks:=s2.toks } H (D :: fp)) [] (v0 :: bS js σ) H' s/\tn i s.heap/\(∀ b∈D :: fp,H' b=none)/\s.heap.get? D=some { cls:=.type "list", data:=.seq its k }/\Vals acc its.toList/\acc.length<=sizeLine/\W i n acc H') ?_ m0 ?_
    · rintro n s ⟨i,v0,H3,acc,its,k,I4,t4,fr4,g4,va,hl4,w4⟩;have hDm:D∈D :: fp:=Ik;have exf:=I4.ok.exf;have fsub:∀ b∈D :: fp,b ∉ (cxB X (x :: ys) scope P2.objs.size { s2 with heap:=P2,toks:=s2.toks } H (D :: fp)).fs:=fun b hb=>(hex b hb).1;have stat:∀ {H':Hp} {ob:Obj},(∀ b∈fp,H' b=none)->∀ b∈fp,wX (cxB X (x :: ys) scope P2.objs.size { s2 with heap:=P2,toks:=s2.toks } H (D :: fp)) [(D,ob)] H' b:=fun {H' ob} hn b hb =>
        ⟨hn b hb,(exf b (Io _ hb)).1,fsub b (Io _ hb),.inl (Io _ hb),(exf b (Io _ hb)).2,fun p hp z=>by
          have hp':p∈[(D,ob)]:=hp;have e:=Iq.mp hp';rw [e] at z
          exact absurd (hfp b hb) (by rw [<- show D=b from z];exact Jo _)⟩
      have frp:∀ b∈fp,H3 b=none:=fun b hb=>fr4 b (Io _ hb);have I5:Inv (cxB X (x :: ys) scope P2.objs.size { s2 with heap:=P2,toks:=s2.toks } H (D :: fp)) [(D,{ cls:=.type "list", data:=.seq its k })] (v0 :: bS js σ) H3 s:=I4.cP fun p hp=>by
        rw [Iq.mp hp];exact ⟨g4,fr4 D hDm,(exf D hDm).1,fsub D hDm,fun v z=>nomatch z⟩
      rcases turn i n acc H3 w4 with ⟨stop,hacc,q⟩ | ⟨go,hacc,step⟩
      · refine Jb (T.done (cxB X (x :: ys) scope P2.objs.size { s2 with heap:=P2,toks:=s2.toks } H (D :: fp)) rfl rfl rfl rfl i _ s _ H3 (fun _ _=>False) I5 (stat frp) t4 stop) (fun r s1 ⟨hr,I6⟩=>?_) (fun _ _ z=>z.elim);subst hr;obtain ⟨m',hn',_⟩:=id I6.loc;have pD:=(I6.pin (D,{ cls:=.type "list", data:=.seq its k }) (Ij _ (Iq.mpr rfl))).1;have nD:H3 D=none:=fr4 D hDm;have u:=I6.base;have uu:Un (frs X.stack) (D :: fp) H (upd H3 D (.lst acc)) P2 s1.heap :=
          ⟨u.keep,u.slot,fun b o q n hx=>by rw [aA fun z=>hx (by rw [z];exact hDm)];exact u.free b o q n hx,u.there,
           fun b xs q=>by rw [aA (bf (u.qv b xs q) nD)];exact u.qv b xs q,fun b o v q=>by rw [aA (bf (u.pI b o v q) nD)];exact u.pI b o v q,
           fun b ps q=>by
            obtain ⟨more,z⟩:=u.qU b ps q
            exact ⟨more,by rw [aA (bf z nD)];exact z⟩⟩
        have hok:HOk X.prog X.w (upd H3 D (.lst acc)) s1.heap:=fun b o e=>by
          by_cases hb:b=D
          · subst hb;rw [aF] at e;cases e;exact ⟨hacc,its.toList,k,va,by rw [Array.toArray_toList];exact pD⟩
          · rw [aA hb] at e;exact (I6.hok b o e).lI (fun c v _ q=>q) (fun c q=>by rw [aA (bf q nD)];exact q) fun c xs q=>by rw [aA (bf q nD)];exact q
        have fin:=I3.call (g':=s1.gens) (t':=s1.toks) (d':=s1.drawn) uu hok I6.bare (fun b hb=>by
          rcases Iz.mp hb with z | hb
          · rw [z];refine ⟨.inr (by rw [<- hDe];exact I.sz),hDl,hDc,fun p hp z=>?_⟩;have:=IF (I.pin p hp).1;rw [z,hDe] at this;exact Jo _ this
          · exact ⟨(hf b hb).2.2.2.1,(hf b hb).2.1,(hf b hb).2.2.2.2.1,(hf b hb).2.2.2.2.2⟩)
        have es:({ heap:=s1.heap,gens:=s1.gens,drawn:=s1.drawn,toks:=s1.toks,os:=s2.os }:Shared)=s1:=by
          have:=I6.os;obtain ⟨a1,a2,a3,a4,a5⟩:=s1;have e5:a5=s2.os:=this;rw [e5]
        have fin':Inv X pins σ (upd H3 D (.lst acc)) s1:=es▸fin;exact hRR D P2.objs.size (upd H3 D (.lst acc)) s1 m' hn' (by rw [hsz];exact Nat.le_succ _) hCD (by rw [aA hCD];exact I6.free) fin' (q D nD)
      · refine Jb (T.item (cxB X (x :: ys) scope P2.objs.size { s2 with heap:=P2,toks:=s2.toks } H (D :: fp)) rfl rfl rfl rfl i _ s _ H3 (fun _ _=>False) I5 (stat frp) t4 go) (fun r s1 ⟨u,hr,h4⟩=>?_) (fun _ _ z=>z.elim);subst hr;refine vO (a:=()) rfl h4 fun ⟨x',H5,I6,r6,y6,t6,fr6⟩=>?_;have I7:=I6.pinned (stat fr6) (T.obj _ _ t6);have kx:(relabel scope X.env).names.lookup x=some .local:=lookup_relabel_local B.var;have pg:PG (cxB X (x :: ys) scope P2.objs.size { s2 with heap:=P2,toks:=s2.toks } H (D :: fp)) (.Name x px) (aZ 0):=oK nd rfl (.inl kx) (.inr kx);refine Jb (pg _ s1 _ H5 x' u (fun σ' H'=>σ'=some x' :: bS js σ/\H'=H5) I7 r6 ⟨rfl,rfl⟩) (fun _ s2' ⟨σ6,H6,I8,e1,e2⟩=>?_) (fun _ _ z=>z.elim);subst e1 e2;refine Jb (ht _ _ _ _ _ s2' _ _ _ I8 (step x' H6 y6)) (fun b s3' ⟨H7,I9,q9⟩=>?_) (fun _ _ z=>z.elim);have pinsKeep:∀ {σ':St} {H':Hp} {s':Shared},Inv (cxB X (x :: ys) scope P2.objs.size { s2 with heap:=P2,toks:=s2.toks } H (D :: fp)) ([(D,{ cls:=.type "list", data:=.seq its k })]++mK fp s1.heap) σ' H' s' ->
            s'.heap.get? D=some { cls:=.type "list", data:=.seq its k }/\(∀ b∈D :: fp,H' b=none)/\∀ b∈fp,∀ o,s1.heap.get? b=some o->s'.heap.get? b=some o:=fun {σ' H' s'} J=>by
          have pd:=J.pin (D,{ cls:=.type "list", data:=.seq its k }) (Ij _ (IL _ (Iq.mpr rfl)));refine ⟨pd.1,fun b hb=>?_,fun b hb o e=>(J.pin (b,o) (Ij _ (Ij _ (e7 hb e)))).1⟩;rcases Iz.mp hb with rfl | hb
          · exact pd.2.1
          · obtain ⟨o,e,_⟩:=T.obj _ _ t6 b hb;exact (J.pin (b,o) (Ij _ (Ij _ (e7 hb e)))).2.1
        cases b with
        | false =>
          rw [Im IE] at q9;obtain ⟨m',hm,w9⟩:=q9;obtain ⟨p1,p2,p3⟩:=pinsKeep I9;rw [Im IE];exact ⟨m',hm,i+1,some x',H7,acc,its,k,I9.cP (fun p hp=>absurd hp (by simp)),T.keep _ _ _ t6 p3,p2,p1,va,hl4,w9⟩
        | true =>
          rw [Ip rfl] at q9;rw [Ip rfl];refine Jb (he _ _ _ _ _ s3' _ _ _ I9 q9) (fun y s4' ⟨yv,H8,I10,ry,m',hm,w10⟩=>?_) (fun _ _ z=>z.elim);obtain ⟨p1,p2,p3⟩:=pinsKeep I10;have hsize:its.size=acc.length:=by rw [va.length];simp
          have I11:=I10.cP (pins':=[]) (fun p hp=>absurd hp (by simp));refine wpAny_list_append_plain ⟨k,p1⟩ (fun h' hpl hsame=>?_) (by rw [hsize];exact K1 hacc);obtain ⟨k',e'⟩:=hpl;have neD:∀ {b:Addr} {o:HO},H8 b=some o->b≠D:=fun e z=>by rw [z,p2 D hDm] at e;cases e
          refine ⟨m',hm,i+1,some x',H8,acc++[yv],its.push y,k',?_,?_,p2,e',?_,?_,w10⟩
          · refine I11.step (g':=s4'.gens) (t':=s4'.toks) (d':=s4'.drawn) (ch:=[D]) (fun b hb=>?_) (fun b o _ _ hc' e _=>?_) (fun b o _ _ hc' e _=>⟨o.slots,?_⟩) (fun b o hc' e n=>n) (fun b o hc' e=>⟨o,?_⟩) (fun _ _ z=>z) (fun _ _ _ z=>z) (fun b ps z=>⟨#[],by rw [z];simp⟩) (fun m hn=>hn.sameBut hsame (Ne.symm (exf D hDm).1)) (fun b o e=>?_) I11.bare
            · rw [Iq.mp hb];exact ⟨.inl hDm,(exf D hDm).1,(exf D hDm).2,fun p hp=>absurd (show p∈([]:List (Addr×Obj)) from hp) (by simp)⟩
            · exact (hsame.2 b fun z=>hc' (Iq.mpr z)).trans e
            · exact (hsame.2 b fun z=>hc' (Iq.mpr z)).trans e
            · exact (hsame.2 b fun z=>hc' (Iq.mpr z)).trans e
            · refine (I11.hok b o e).lI (fun c v hc' q=>(hsame.2 c ?_).trans q) (fun _ q=>q) fun _ _ q=>q;rcases hc' with z | z
              · rw [z];exact neD e
              · exact neD z
          · refine T.keep _ _ _ t6 fun b hb o e=>(hsame.2 b ?_).trans (p3 b hb o e);exact Jf (hfp b hb)
          · rw [Array.toList_push];exact va.append (.cons ry .nil)
          · rw [Ic,Ku];exact hacc
    · refine ⟨0,none,H,[],#[],_,IB,T.keep _ _ _ h0 (fun b hb o e=>keep1 b o (hold b o e)),fun b hb=>?_,keep1 _ _ hgetD,.nil,Jw _,w0⟩;rcases Iz.mp hb with rfl | hb
      · exact hD
      · exact (hf b hb).1
  exact codeAny_compStart_list start (T.self _ 0 _ _ _ (T.keep _ _ _ h0 (fun b hb o e=>keep1 b o (hold b o e))) start)
theorem zm {X:Cx} {elt iter:Expr} {x:Str} {px pos:Pos} {ifs:List Expr} {scope:Scope} {wi:TI} {tt:TT} {te:TE} {ys:List Str} {js:List Nat} (hc:X.calm=true) (hi:PI X (.Name x px) iter wi) (B:i6 X scope x) (nd:(x :: ys).Nodup) (cap:hZ X scope ys js)
  (ht:∀ C s3 H3 ex,PTs (cxB X (x :: ys) scope C s3 H3 ex) ifs tt) (he:∀ C s3 H3 ex,PE (cxB X (x :: ys) scope C s3 H3 ex) elt te) (hs:∀ x,foldedSetIterable iter X.env x=pure x:=by intro _;rfl) :
  PE X (.ListComp elt [⟨.Name x px,iter,ifs,0⟩] scope pos) (jR js wi tt te):=by
 intro pins s σ H Q I h;have hcl:=kz (scope:=scope) (env:=X.env) fun y hy hf=>I.ok.has y.1 (.inl (B.free y hy hf));rw [eval_ListComp];refine wpAny_comprehension_free (use:=none) rfl hs hcl B.kind B.locs (Jb (hi pins s σ H _ I h) (fun xv s1 h1=>Jb h1 (fun itv s2 h2=>?_) fun _ _ e=>e) fun _ _ e=>e);obtain ⟨it,fp,tn,J,H2,e,I2,T,st2,f2,W,w0,turn⟩:=h2;subst e;refine pO (RR:=fun acc C=>compPost (model X.prog X.w) X.A X.xe none (EP X pins σ Q) acc C) hc B nd cap ht he I2 T st2 f2 W w0 turn ?_;intro D C H' s' m' hn hC hCD hCn I' q;refine ⟨m',hn,fun h' hs'=>⟨.ref D,H',?_,rfl,q⟩⟩;have hL:X.env.locals≠C:=Jf (II I2.lt hC);have neC:∀ {b:Addr} {o:HO},H' b=some o->b≠C:=fun e z=>by rw [z,hCn] at e;cases e
 refine I'.step (g':=s'.gens) (t':=s'.toks) (d':=s'.drawn) (ch:=[C]) (fun b hb=>?_) (fun b o _ _ hc' e _=>?_) (fun b o _ _ hc' e _=>⟨o.slots,?_⟩) (fun b o hc' e n=>n) (fun b o hc' e=>⟨o,?_⟩) (fun _ _ z=>z) (fun _ _ _ z=>z) (fun b ps z=>⟨#[],by rw [z];simp⟩) (fun m hn=>hn.sameBut hs' hL) (fun b o e=>?_) I'.bare
 ·rw [Iq.mp hb];refine ⟨.inr (IY I2.sz hC),Ne.symm hL,fun y c e z=>?_,fun p hp z=>?_⟩
  ·obtain ⟨v,q⟩:=I2.cell y c e;have:=q.lt;rw [z] at this;exact absurd (II this hC) (Jo _)
  ·have:=IF (I2.pin p hp).1;rw [z] at this;exact absurd (II this hC) (Jo _)
 ·exact (hs'.2 b fun z=>hc' (Iq.mpr z)).trans e
 ·exact (hs'.2 b fun z=>hc' (Iq.mpr z)).trans e
 ·exact (hs'.2 b fun z=>hc' (Iq.mpr z)).trans e
 ·refine (I'.hok b o e).lI (fun c v hc' q=>(hs'.2 c ?_).trans q) (fun _ q=>q) fun _ _ q=>q;rcases hc' with z | z
  ·rw [z];exact neC e
  ·exact neC z
theorem xU {X:Cx} {elt iter:Expr} {x y:Str} {px py pos spos:Pos} {ifs:List Expr} {scope:Scope} {wi:TI} {tt:TT} {te:TE} {ys:List Str} {js:List Nat} {i:Nat} (hN:X.N.Nodup) (hi':X.N[i]?=some y) (hy:X.env.scope.names.lookup y=some .local)
  (hsw:swapsWith (.ListComp elt [⟨.Name x px,iter,ifs,0⟩] scope pos) (some (.Name y py)) spos.line X.env=pure true) (hc:X.calm=true) (hi:PI X (.Name x px) iter wi) (B:i6 X scope x) (nd:(x :: ys).Nodup) (cap:hZ X scope ys js)
  (ht:∀ C s3 H3 ex,PTs (cxB X (x :: ys) scope C s3 H3 ex) ifs tt) (he:∀ C s3 H3 ex,PE (cxB X (x :: ys) scope C s3 H3 ex) elt te) (hs:∀ x,foldedSetIterable iter X.env x=pure x:=by intro _;rfl) :
  PS X (.Assign [.Name y py] (.ListComp elt [⟨.Name x px,iter,ifs,0⟩] scope pos) spos) (dB (jR js wi tt te) (aZ i)):=by
 intro pins s σ H Dn I h;have hcl:=kz (scope:=scope) (env:=X.env) fun y hy hf=>I.ok.has y.1 (.inl (B.free y hy hf));rw [exec_Assign_Name_used _ _ _ _ hsw];refine Ib (wpAny_standAt (Ib ?_));show wpAny _ X.A (do let _<-comprehension (.ListComp elt [⟨.Name x px,iter,ifs,0⟩] scope pos) scope X.env _ (newList []) false (eval iter X.env) (some (assign (.Name y py) X.env))) _ _ s
 refine Ib (Jb (wpAny_comprehension_free (use:=some (assign (.Name y py) X.env)) (Q:=fun _ s'=>SP X pins Dn .next s') rfl hs hcl B.kind B.locs
  (Jb (hi pins s σ H _ I h) (fun xv s1 h1=>Jb h1 (fun itv s2 h2=>?_) fun _ _ e=>e) fun _ _ e=>e)) (fun _ s' hq=>Il (Il hq)) fun _ _ e=>e)
 obtain ⟨it,fp,tn,J,H2,e,I2,T,st2,f2,W,w0,turn⟩:=h2;subst e;refine pO (Q:=fun x H1=>aZ i x σ H1 Dn.nx) (RR:=fun acc C=>compPost (model X.prog X.w) X.A X.xe (some (assign (.Name y py) X.env)) (fun _ s'=>SP X pins Dn .next s') acc C) hc B nd cap ht he I2 T st2 f2 W w0 turn ?_;intro D C H' s' m' hn hC hCD hCn I' q;have hL:X.env.locals≠C:=Jf (II I2.lt hC);have hCfs:C ∉ X.fs:=I2.A6 hC;obtain ⟨oC,esC,epC,hoC,hdC,restC⟩:=id hn;have I'':Inv X (pins++[(C,oC)]) σ H' s':=I'.cP fun p hp=>by
  rcases Ja.mp hp with z | z
  ·exact I'.pin p (Ij _ z)
  ·rw [Iq.mp z];exact ⟨hoC,hCn,Ne.symm hL,hCfs,fun v z=>by rw [hdC] at z;cases z⟩
 show wpAny _ X.A (assign (.Name y py) X.env (.ref D)) _ _ _;refine Jb (oK (pos:=py) hN hi' (.inl hy) (.inr hy) _ s' σ H' (.ref D) (.ref D) Dn.nx I'' rfl q) (fun _ s3 ⟨σ3,H3,I3,q3⟩=>?_) fun _ _ e=>e;have pC:=I3.pin (C,oC) (Ij _ (Ij _ (Iq.mpr rfl)));have hn3:s3.heap.Ns C m':=⟨oC,esC,epC,pC.1,hdC,restC⟩;have hCn3:H3 C=none:=pC.2.1;refine ⟨m',hn3,fun h' hs'=>⟨σ3,H3,?_,q3⟩⟩;have I4:=I3.iV;have neC:∀ {b:Addr} {o:HO},H3 b=some o->b≠C:=fun e z=>by rw [z,hCn3] at e;cases e
 refine I4.step (g':=s3.gens) (t':=s3.toks) (d':=s3.drawn) (ch:=[C]) (fun b hb=>?_) (fun b o _ _ hc' e _=>?_) (fun b o _ _ hc' e _=>⟨o.slots,?_⟩) (fun b o hc' e n=>n) (fun b o hc' e=>⟨o,?_⟩) (fun _ _ z=>z) (fun _ _ _ z=>z) (fun b ps z=>⟨#[],by rw [z];simp⟩) (fun m hn=>hn.sameBut hs' hL) (fun b o e=>?_) I4.bare
 ·rw [Iq.mp hb];refine ⟨.inr (IY I2.sz hC),Ne.symm hL,fun y c e z=>?_,fun p hp z=>?_⟩
  ·obtain ⟨v,q⟩:=I2.cell y c e;have:=q.lt;rw [z] at this;exact absurd (II this hC) (Jo _)
  ·have:=IF (I2.pin p hp).1;rw [z] at this;exact absurd (II this hC) (Jo _)
 ·exact (hs'.2 b fun z=>hc' (Iq.mpr z)).trans e
 ·exact (hs'.2 b fun z=>hc' (Iq.mpr z)).trans e
 ·exact (hs'.2 b fun z=>hc' (Iq.mpr z)).trans e
 ·refine (I4.hok b o e).lI (fun c v hc' q=>(hs'.2 c ?_).trans q) (fun _ q=>q) fun _ _ q=>q;rcases hc' with z | z
  ·rw [z];exact neC e
  ·exact neC z
end L2
end
section
namespace L2
open PySem PySem.Spec PyProof.Rows
def Its (x:Str):It:=⟨fun i _=>i < x.length,fun i H v H'=>H'=H/\∃ c,x.cps[i]?=some c/\v=.str ⟨#[c]⟩,fun i _=>x.length<=i⟩
theorem vC {P:Program} {w:World} {K:Fg} {y:Str} {py:Pos} {x:Str} {it:Addr} {St:Nat->Heap->Prop} (W:∀ A':Around,A'.handled=none->Walks P w A' it [it] [it] x.cps.size (SignAt x) St)
  (ob:∀ i h,St i h->∃ o,h.get? it=some o/\∀ v,o.data≠.cell v) (hs:∀ (A:Around) i (s:Shared) (Q:Value->Shared->Prop) (E:Value->Shared->Prop),St i s.heap->Q (.ref it) s->wpAny (model P w) A (pyIter (.ref it)) Q E s) :
  Turn P w K (.Name y py) (Its x) [it] it (fun i h=>i<=x.cps.size/\St i h) where
 mem:=by simp
 obj:=fun i h st b hb=>by
  have e:b=it:=by simpa using hb
  subst e;exact ob i h st.2
 keep:=fun i h h' st k=>⟨st.1,(W { depth:=0,frames:=none,guards:=none,units:=0,handled:=none } rfl).frame i h h' st.2 fun b hb o e=>k b hb o e⟩
 item:=by
  intro X hP hw hK hc i pins s σ H E I hf st hg;subst hP hw hK;obtain ⟨f0,f1,f2,f3,f4,f5⟩:=hf it (by simp);refine (W X.A (I.ok.hd hc)).item i s _ _ hg st.2 fun v h' tk hv st' kk=>?_;obtain ⟨c,t,hcps,rfl⟩:=hv;have I1:Inv X pins σ H { s with heap:=h',toks:=tk }:=I.turned (fun b o hb e=>kk b o (by simpa using hb) e) f0 f1 f3 f4 f5;exact ⟨_,rfl,Il (show _ from ⟨.str ⟨#[c]⟩,H,I1,⟨t,rfl⟩,⟨rfl,c,hcps,rfl⟩,⟨hg,st'⟩,fun b hb=>(hf b hb).1⟩)⟩
 done:=by
  intro X hP hw hK hc i pins s σ H E I hf st hg;subst hP hw hK;obtain ⟨f0,f1,f2,f3,f4,f5⟩:=hf it (by simp);have e:i=x.cps.size:=Nat.le_antisymm st.1 hg;subst e;exact (W X.A (I.ok.hd hc)).done s _ _ st.2 fun h' tk kk=>⟨rfl,I.turned (fun b o hb e=>kk b o (by simpa using hb) e) f0 f1 f3 f4 f5⟩
 self:=fun A i s Q E st h=>hs A i s Q E st.2 h
def DA (tl:TE):TI:=fun σ H R=>tl σ H fun x H1=>∃ z,x=.str z/\R (Its z) H1
theorem Ab {X:Cx} {y:Str} {py:Pos} {l:Expr} {tl:TE} (hl:PE X l tl):PI X (.Name y py) l (DA tl):=by
 intro pins s σ H R I h;refine thn (hl pins s σ H _ I h) fun v s1 ⟨x,H1,I1,r1,q1⟩=>?_;obtain ⟨z,e,q⟩:=q1;subst e;obtain ⟨t,rfl⟩:=r1;have hn:H1 s1.heap.objs.size=none:=I1.hok.fresh (Iv _);have key:∀ (T:String) (sz:T = "str_ascii_iterator" \/ T = "str_iterator"),PIE X pins σ (.Name y py) R (.ref s1.heap.objs.size) { s1 with heap:=s1.heap.push { cls:=.type T,data:=.fields #[.str z t,.int 0 0] } }:=fun T sz=>by
  have I2:Inv X pins σ H1 { s1 with heap:=s1.heap.push { cls:=.type T,data:=.fields #[.str z t,.int 0 0] },toks:=s1.toks }:=I1.kept fun b o e=>Iw _ e;have st0:(s1.heap.push { cls:=.type T,data:=.fields #[.str z t,.int 0 0] }).IsStrIter s1.heap.objs.size T z t 0:=⟨_,IX _ rfl,rfl,rfl⟩;refine ⟨s1.heap.objs.size,[s1.heap.objs.size],fun i h=>i<=z.cps.size/\h.IsStrIter s1.heap.objs.size T z t i,Its z,H1,rfl,I2,?_,⟨Jw _,st0⟩,fun b hb=>?_,q⟩
  ·refine vC (fun A' hA=>?_) (fun i h st=>?_) fun A i s Q E st hq=>?_
   ·rcases sz with rfl | rfl
    ·exact Walks.strAscii hA _ z t
    ·exact Walks.strWide hA _ z t
   ·obtain ⟨o,e,c,d⟩:=st;exact ⟨o,e,fun v z=>by rw [d] at z;cases z⟩
   ·rcases sz with rfl | rfl
    ·exact wpAny_pyIter_striter_ascii st hq
    ·exact wpAny_pyIter_striter_wide st hq
  ·rw [Iq.mp hb];exact I1.Dt (Iv _) hn
 cases ha:z.cps.all (· < 128)
 ·exact wpAny_pyIter_wide ha (key _ (.inr rfl))
 ·exact wpAny_pyIter_ascii ha (key _ (.inl rfl))
section
variable {X:Cx}
theorem sx:OpR X (compareOp .LtE) (fun x y H Q=>∃ i j,x=.str i/\y=.str j/\Q (.bl (!(decide (j.cps.toList < i.cps.toList)))) H):=by
 intro pins s σ H x y v u Q I rx ry h;obtain ⟨i,j,rfl,rfl,q⟩:=h;obtain ⟨t,rfl⟩:=rx;obtain ⟨t',rfl⟩:=ry;exact P.le_str ⟨.bl _,H,I,rfl,q⟩
theorem OpR.or' {f:Value->Value->Sem Value} {r r':R2} (h:OpR X f r) (h':OpR X f r'):OpR X f (fun x y H Q=>r x y H Q\/r' x y H Q):=by
 intro pins s σ H x y v u Q I rx ry q;rcases q with q | q
 ·exact h pins s σ H x y v u Q I rx ry q
 ·exact h' pins s σ H x y v u Q I rx ry q
theorem vR:OpR X (binaryOp .FloorDiv) (rI (fun _ j=>0 < j/\j.natAbs.log2 < 9000) fun i j=>.int (i / j)):=opI fun i j _ _ _ _ _ hc q=>by
 have h1:(0:Int) < j:=hc.1;exact floordiv_int (by omega) (by rw [Int.fdiv_eq_ediv_of_nonneg i (by omega)];exact q) (.inl (PyProof.noPylong_of_log2 hc.2))
theorem tF (hc:X.calm=true):bM X (.builtin "all") (fun xs H Q=>∃ (a:Addr) (bs:List Bool),xs=[.ref a]/\SqL X.K H a (bs.map V.bl)/\Q (.bl (bs.all id)) H):=by
 intro pins s σ H xs us Q I r h;obtain ⟨a,bs,rfl,hq,q⟩:=h;obtain ⟨u,rfl,r1⟩:=vals1 r;cases (show u=Value.ref a from r1);obtain ⟨its,rv,p,hz⟩:=I.list hq;have ha:a < s.heap.objs.size:=by
  obtain ⟨o,e,_⟩:=p.isList;exact IF e
 refine call_all_walk (wpAny_pyIter_list p.isList ?_);refine ⟨s.heap.objs.size,_,_,_,_,_,fun i=>(bs[i]?).getD true,rfl,Walks.list (show X.A.in1.handled=none from I.ok.hd hc) s.heap.objs.size a (Jf ha) its.toArray,⟨⟨_,IX _ rfl,rfl,rfl⟩,p.isList.push _⟩,?_,?_⟩
 ·intro i v s' Q' E' hv hQ;have hv':its[i]?=some v:=by simpa using hv
  have hi:i < its.length:=(Ie.mp hv').1;have hb:i < bs.length:=by have:=rv.length;rw [Ig] at this;omega
  obtain ⟨u,hu,ru⟩:=rv.get (i:=i) (x:=.bl bs[i]) (by rw [IJ,Ia hb];rfl);rw [hv'] at hu;cases hu;cases (show v=Value.bool bs[i] from ru);dsimp only at hQ;rw [Ia hb] at hQ;exact Jv hQ
 ·intro h' tk kk;have e:(List.range its.toArray.size).all (fun i=>(bs[i]?).getD true)=bs.all id:=by
   have hl:its.toArray.size=bs.length:=by rw [Iy,<-rv.length,Ig]
   rw [hl,Bool.eq_iff_iff,J5,J5];constructor
   ·intro h b hb;obtain ⟨i,hi,e⟩:=List.mem_iff_getElem.mp hb;have:=h i (List.mem_range.mpr hi);rw [Ia hi,e] at this;exact this
   ·intro h i hi;rw [Ia (List.mem_range.mp hi)];exact h _ (List.getElem_mem _)
  rw [e];have I1:Inv X pins σ H { s with heap:=s.heap.push { cls:=.type "list_iterator", data:=.fields #[.ref a,rawInt 0] },toks:=s.toks }:=I.kept fun b o e=>Iw _ e;have hn:H s.heap.objs.size=none:=I.hok.fresh (Iv _)
  have I2:Inv X pins σ H { s with heap:=h',toks:=tk }:=I.kept fun b o e=>kk b o (by
   intro z;have:=Iq.mp z;rw [this] at e
   exact absurd (IF e) (Jo _)) (Iw _ e)
  exact ⟨.bl _,H,I2,rfl,q⟩
def vd (x:Str) (lo hi:Option Int):Str:=⟨((x.cps.toList.drop (HT.sIx x.length 0 lo)).take (HT.sIx x.length x.length hi - HT.sIx x.length 0 lo)).toArray⟩
theorem Eh (lo hi:Option Int) (n:Nat):Builtin.Str.strSliceIndices lo hi 1 n=(List.range (HT.sIx n n hi - HT.sIx n 0 lo)).map (HT.sIx n 0 lo+·):=by
 rw [<- sliceRange_one];unfold Builtin.Str.strSliceIndices;dsimp only;have h1:(1:Int) > 0:=by decide
 have e0:(match lo with | none=>(if (1:Int) > 0 then 0 else (n:Int) - 1) | some i=>if (1:Int) > 0 then max 0 (min (if i < 0 then i+(n:Int) else i) (n:Int)) else max (-1) (min (if i < 0 then i+(n:Int) else i) ((n:Int) - 1)))=((HT.sIx n 0 lo:Nat):Int):=by
  cases lo with
  | none=>simp [HT.sIx]
  | some i =>
   simp only [HT.sIx,h1,KN];by_cases h:i < 0
   ·simp only [h,KN] <;> omega
   ·simp only [h,Kk] <;> omega
 have e1:(match hi with | none=>(if (1:Int) > 0 then (n:Int) else -1) | some i=>if (1:Int) > 0 then max 0 (min (if i < 0 then i+(n:Int) else i) (n:Int)) else max (-1) (min (if i < 0 then i+(n:Int) else i) ((n:Int) - 1)))=((HT.sIx n n hi:Nat):Int):=by
  cases hi with
  | none=>simp [HT.sIx]
  | some i =>
   simp only [HT.sIx,h1,KN];by_cases h:i < 0
   ·simp only [h,KN] <;> omega
   ·simp only [h,Kk] <;> omega
 rw [<- e0,<-e1];cases lo <;> cases hi <;> rfl
theorem oW (n:Nat) (v:Option Int):HT.sIx n n v<=n/\HT.sIx n 0 v<=n:=by
 cases v with
 | none=>simp [HT.sIx]
 | some i =>
  simp only [HT.sIx];split <;> omega
def B0:V->Option Int->Option Int->Hp->VK->Prop:=fun x lo hi H Q=>∃ z,x=.str z/\z.length<=sizeLine/\Q (.str (vd z lo hi)) H
theorem iY (x:Str) (lo hi:Option Int):(vd x lo hi).length<=x.length:=by
 have e:x.cps.toList.length=x.length:=by simp [Str.length]
 show (((x.cps.toList.drop _).take _).toArray).size<=x.length;rw [Iy,Jh,JD,e];omega
theorem tE:SlR X B0:=by
 intro pins s σ H x v vl vu lo hi sl Q I rx hs pl pu h;obtain ⟨z,rfl,hz,q⟩:=h;obtain ⟨t,rfl⟩:=rx;refine ⟨"str", _,F.slot_str_getitem.lookup,typeIs_str _ _ _,?_⟩;obtain ⟨l,el,el'⟩:∃ l:Option (Int×Tok),l.map (·.1)=lo/\vl=partValue l:=by
  cases pl with
  | none=>exact ⟨none,rfl,rfl⟩
  | int i t=>exact ⟨some (i,t),rfl,rfl⟩
 obtain ⟨u,eu,eu'⟩:∃ l:Option (Int×Tok),l.map (·.1)=hi/\vu=partValue l:=by
  cases pu with
  | none=>exact ⟨none,rfl,rfl⟩
  | int i t=>exact ⟨some (i,t),rfl,rfl⟩
 subst el' eu';obtain ⟨o,h1,h2,h3⟩:=hs;refine wpAny_getItem_str_slice (l:=l) (u:=u) (st:=none) ⟨o,h1,h2,h3⟩ rfl ?_;have pk:slicePicked z l u none=(List.range (HT.sIx z.length z.length hi - HT.sIx z.length 0 lo)).map (HT.sIx z.length 0 lo+·):=by
  rw [<- Eh,<-el,<-eu];rfl
 have ez:z.cps.toList.length=z.length:=by simp [Str.length]
 have cut:(⟨((slicePicked z l u none).filterMap (z.cps[·]?)).toArray⟩:Str)=vd z lo hi:=by
  rw [pk,pick_run];rfl
 unfold sliceMade;split
 ·rename_i hc;have hl:(slicePicked z l u none).length=z.length:=by
   have:=(Bool.and_eq_true_iff.mp hc).2;simpa using this
  rw [pk,Ig,Js] at hl;have b1:=oW z.length hi;have b2:=oW z.length lo;have h0:HT.sIx z.length 0 lo=0\/z.length=0:=by omega
  have e:vd z lo hi=z:=by
   unfold vd;rcases h0 with h0 | h0
   ·rw [h0,KG,Jx (by omega)]
   ·have hn:z.cps.toList=[]:=IV (by omega);rw [hn];have:z.cps=#[]:=by
     have:=congrArg List.toArray hn;simpa using this
    obtain ⟨c⟩:=z;simp only at this;subst this;simp
  rw [e] at q;exact ⟨.str z,H,I,⟨t,rfl⟩,q⟩
 ·rw [cut];exact ⟨IY (iY _ _ _) hz,⟨.str _,H,I.tok _,⟨_,rfl⟩,q⟩⟩
end
mutual
def Dn (p:Addr) (H:Hp):PyData->V->Prop
 | .none,v=>v=.non
 | .bool b,v=>v=.bl b
 | .int i,v=>v=.int i
 | .str x,v=>v=.str x
 | .list ds,v=>∃ a xs,v=.ref a/\a≠p/\H a=some (.lst xs)/\DnL p H ds xs
 | .tuple ds,v=>∃ a xs,v=.ref a/\a≠p/\H a=some (.tup xs)/\DnL p H ds xs
 | .dict kvs,v=>kvs=[]/\∃ a,v=.ref a/\a≠p/\H a=some (.dK [])
def DnL (p:Addr) (H:Hp):List PyData->List V->Prop
 | [],vs=>vs=[]
 | d :: ds,vs=>∃ v r,vs=v :: r/\Dn p H d v/\DnL p H ds r
end
section
variable {X:Cx}
end
end L2
end
section
namespace L2
open PySem PySem.Spec PyProof.Rows
section
variable {t u:TS} {D:Ends} {σ:St} {H:Hp} {te ta tb tc:TE} {g:TG} {Q:VK} {c a b:TT} {QB:Bool->Hp->Prop} {i:Nat} {v x y:V} {r r':R2} {QA:List V->Hp->Prop} {tA tR:TA} {sp:Sp} {dvs:List V} {E:XK}
end
def rOr (r r':R2):R2:=fun x y H Q=>r x y H Q\/r' x y H Q
def vh (r r':V->Option Int->Option Int->Hp->VK->Prop):V->Option Int->Option Int->Hp->VK->Prop:=fun x l u H Q=>r x l u H Q\/r' x l u H Q
def BY:R2:=fun x y H Q=>∃ i j,x=.str i/\y=.str j/\i.length+j.length<=sizeLine/\Q (.str (i++j)) H
def GI:R2:=fun x y H Q=>∃ i j,x=.str i/\y=.str j/\Q (.bl (decide (i.cps.toList < j.cps.toList))) H
def GH:R2:=fun x y H Q=>∃ i j,x=.str i/\y=.str j/\Q (.bl (!(decide (j.cps.toList < i.cps.toList)))) H
def Gy (K:Fg):List V->Hp->VK->Prop:=fun xs H Q=>∃ (a:Addr) (bs:List Bool),xs=[.ref a]/\SqL K H a (bs.map V.bl)/\Q (.bl (bs.all id)) H
def Dk (K:Fg):List V->Hp->VK->Prop:=fun xs H Q=>∃ x n,xs=[x]/\GA K x H n/\Q (.int n) H
def ET:List V->Hp->VK->Prop:=fun xs H Q=>∃ i,xs=[.int i]/\Q (.int (if i < 0 then -i else i)) H
section
variable {X:Cx}
theorem orR {f:Value->Value->Sem Value} {r r':R2} (h:OpR X f r) (h':OpR X f r'):OpR X f (rOr r r'):=OpR.or' h h'
theorem orS {r r':V->Option Int->Option Int->Hp->VK->Prop} (h:SlR X r) (h':SlR X r'):SlR X (vh r r'):=SlR.or h h'
theorem zC:OpR X (binaryOp .Add) BY:=qP
theorem Cm:OpR X (compareOp .Lt) GI:=r8
theorem Ai:OpR X (compareOp .LtE) GH:=sx
theorem uX (hc:X.calm=true):bM X (.builtin "all") (Gy X.K):=tF hc
theorem uf:bM X (.builtin "len") (Dk X.K):=wk
theorem um:bM X (.builtin "abs") ET:=vm
end
end L2
namespace L2
open PySem
def pz (sc scope:Scope) (x:Str):Bool :=
 (scope.kind==.function)&&scope.names.all (fun y=>y.2 != .cell)&&scope.names.all (fun y=>y.2 != .local||scope.names.lookup y.1==some .local)&&(scope.names.lookup x==some .local)&&scope.names.all (fun y=>y.2 != .free||sc.names.lookup y.1==some .cell)
theorem bsc {X:Cx} {sc scope:Scope} {x:Str} (e:X.env.scope=sc) (h:pz sc scope x=true):i6 X scope x:=by
 unfold pz at h;simp only [Ji,J5,Bool.or_eq_true,bne_iff_ne,IZ,ne_eq] at h;obtain ⟨⟨⟨⟨h1,h2⟩,h3⟩,h4⟩,h5⟩:=h;exact ⟨h1,fun y hy=>h2 y hy,fun y hy e=>(h3 y hy).resolve_left fun z=>z e,h4,fun y hy e'=>by rw [e];exact (h5 y hy).resolve_left fun z=>z e'⟩
end L2
namespace L2
open PySem
theorem bj {e:Expr} {es:List Expr} {env:Env} (h:PySem.W.isStarred e=false):starEach (e :: es) env=(false,eval e env) :: starEach es env:=by
 cases e <;> first | rfl | exact absurd h (by simp [PySem.W.isStarred])
theorem dc {pos:Pos} {env:Env}:∀ {es:List Expr},es.all (fun e=>!PySem.W.isStarred e)=true->(backTo pos (starEach es env)).any (·.1)=false
 | [],_=>rfl
 | e :: es,h=>by
  rw [List.all_cons,Ji] at h;rw [bj (by simpa using h.1)];have ih:=dc (pos:=pos) (env:=env) h.2;unfold backTo at ih ⊢;rw [Jj,List.any_cons,ih];rfl
section
variable {X:Cx} {e:Expr} {es:List Expr} {te:TE} {t:TA} {x:Str} {p pos:Pos} {id T:String} {r:List V->Hp->VK->Prop} {CX:CXT} {k:Nat} {f:Addr} {fd:FuncData} {ps:List Str} {sp:Sp} {ds:List Value} {dvs:List V} {E:XK}
end
end L2
end
section
namespace L2
open PySem
structure JE (X:Cx) (e:Expr) (t:TE):Prop where
 h:PE X e t
structure JT (X:Cx) (e:Expr) (t:TT):Prop where
 h:PT X e t
structure JW (X:Cx) (e:Expr) (t:TT):Prop where
 h:PW X e t
structure JA (X:Cx) (es:List Expr) (t:TA):Prop where
 h:PA X es t
structure JS (X:Cx) (s:Stmt) (t:TS):Prop where
 h:PS X s t
structure JSs (X:Cx) (s:List Stmt) (t:TS):Prop where
 h:PSs X s t
structure JG (X:Cx) (e:Expr) (t:TG):Prop where
 h:PG X e t
structure JI (X:Cx) (tg e:Expr) (t:TI):Prop where
 h:PI X tg e t
structure JO (X:Cx) (e:Option Expr) (t:TO):Prop where
 h:PO X e t
structure JC (X:Cx) (N:List Str) (scope:Scope) (e:Expr) (t:TE):Prop where
 h:∀ C s3 H3 ex,PE (cxB X N scope C s3 H3 ex) e t
structure JTs (X:Cx) (N:List Str) (scope:Scope) (e:List Expr) (t:TT):Prop where
 h:∀ C s3 H3 ex,PTs (cxB X N scope C s3 H3 ex) e t
structure JP (X:Cx) (pos:Pos) (ks:List (Option Expr)) (vs:List Expr) (t:List (TE×TE)):Prop where
 h:PPs X pos ks vs t
section
variable {X:Cx} {e a b c:Expr} {es rest:List Expr} {te ta tb tc:TE} {tA tB':TT} {t:TA} {x:Str} {p pos:Pos} {id T:String} {r:List V->Hp->VK->Prop} {CX:CXT} {k:Nat} {f:Addr} {fd:FuncData} {ps:List Str} {sp:Sp} {ds:List Value} {dvs:List V} {E:XK}
theorem ar (i:Nat) (hN:X.N[i]?=some x) (hv:Vis X.env.scope x) (hd:(x==("__debug__" : Str))=false) (hcd:(x==("__classdict__" : Str))=false):JE X (.Name x pos) (ao i):=⟨wR hN hv hd hcd⟩
theorem bb {i j}:JE X (.Constant (.int i) j pos) (tC (.int i)):=⟨Cr⟩
theorem eBl {b j}:JE X (.Constant (.bool b) j pos) (tC (.bl b)):=⟨Fv⟩
theorem Al {j}:JE X (.Constant .none j pos) (tC .non):=⟨Cd⟩
theorem bA {x j}:JE X (.Constant (.str x) j pos) (tC (.str x)):=⟨CN⟩
theorem aB:JA X [] aq:=⟨xq⟩
theorem eA (ha:JE X e te) (hr:JA X es t) (h:PySem.W.isStarred e=false):JA X (e :: es) (ae te t):=⟨sh ha.h hr.h (bj h)⟩
theorem aU (F:dN X.prog X.w X.K X.mg X.base CX k f fd ps sp) (hr:cj k X.A) (hg:Gl X x) (hm:X.mg x=some (.ref f)) (hk:PySem.W.keepIn X.K (.ref f)=true) (hb:Binds X.K fd ps ds) (hd:Vals dvs ds) (hx:Passes CX X E)
  (ha:JA X (e :: es) t) (h1:PySem.W.isStarred e=false) (h2:es.all (fun e=>!PySem.W.isStarred e)=true) (hdb:(x==("__debug__" : Str))=false):JE X (.Call (.Name x p) (e :: es) [] pos) (aG sp dvs E t) :=
 ⟨yH F hr hg hm hk hb hd hx ha.h hdb (bj h1) (dc h2)⟩
theorem eB (hc:bM X (.builtin id) r) (hg:Gl X x) (hm:X.mg x=none) (hv:bootBuiltins x=some (.builtin id)) (ha:JA X (e :: es) t) (h1:PySem.W.isStarred e=false) (h2:es.all (fun e=>!PySem.W.isStarred e)=true)
  (hn:x ≠ "__name__") (hdb:(x==("__debug__" : Str))=false):JE X (.Call (.Name x p) (e :: es) [] pos) (tCB r t):=⟨vp hc hg hm hv ha.h hn hdb (bj h1) (dc h2)⟩
theorem eTy (hc:bM X (.type T) r) (hg:Gl X x) (hm:X.mg x=none) (hv:bootBuiltins x=some (.type T)) (ha:JA X (e :: es) t) (h1:PySem.W.isStarred e=false) (h2:es.all (fun e=>!PySem.W.isStarred e)=true)
  (hn:x ≠ "__name__") (hdb:(x==("__debug__" : Str))=false):JE X (.Call (.Name x p) (e :: es) [] pos) (tCB r t):=⟨u7 hc hg hm hv ha.h hn hdb (bj h1) (dc h2)⟩
theorem eR1 {tg a:Expr} {ta:TA} (hg:Gl X "range") (hm:X.mg "range" = none) (ha:JA X [a] ta) (h:PySem.W.isStarred a=false):JI X tg (.Call (.Name "range" p) [a] [] pos) (oa ta):=⟨tG hg hm ha.h (bj h)⟩
theorem eIL {tg:Expr} (h:JE X e te):JI X tg e (sJ X.K te):=⟨uZ h.h⟩
theorem eIS {y:Str} {py:Pos} (h:JE X e te):JI X (.Name y py) e (DA te):=⟨Ab h.h⟩
theorem jY {v:V} {u:Value} (hg:Gl X x) (hm:X.mg x=some u) (r:RelV v u) (hd:(x==("__debug__" : Str))=false):JE X (.Name x pos) (tC v):=⟨sC hg hm r hd⟩
theorem vg {v:V} {u:Value} (hg:Gl X x) (hm:X.mg x=none) (hv:bootBuiltins x=some u) (r:RelV v u) (hn:x ≠ "__name__") (hd:(x==("__debug__" : Str))=false):JE X (.Name x pos) (tC v):=⟨yx hg hm hv r hn hd⟩
theorem eOp {op:Operator} {r:R2} (ho:OpR X (binaryOp op) r) (ha:JE X a ta) (hb:JE X b tb):JE X (.BinOp a op b pos) (tOp r ta tb):=⟨Ew ho ha.h hb.h⟩
theorem eUn {op:UnaryOp} {r:V->Hp->VK->Prop} (ho:UnR X (unaryOp op) r) (ha:JE X a ta):JE X (.UnaryOp op a pos) (tUn r ta):=⟨Er ho ha.h⟩
theorem GK (ha:JE X a ta):JE X (.UnaryOp .Not a pos) (sy ta):=⟨Bo ha.h⟩
theorem AN {op} (h:JE X a te):JE X (.BoolOp op [a] pos) te:=⟨AH h.h⟩
theorem zY (ha:JE X a ta) (hb:JE X (.BoolOp .And (b :: rest) pos) tb):JE X (.BoolOp .And (a :: b :: rest) pos) (kI ta tb):=⟨Co ha.h hb.h⟩
theorem eOr (ha:JE X a ta) (hb:JE X (.BoolOp .Or (b :: rest) pos) tb):JE X (.BoolOp .Or (a :: b :: rest) pos) (Ag ta tb):=⟨Fh ha.h hb.h⟩
theorem GC {op:CmpOp} {r:R2} (ho:OpR X (compareOp op) r) (ha:JE X a ta) (hb:JE X b tb) (hm:behindInMarks op b=false):JE X (.Compare a [op] [b] pos) (tOp r ta tb):=⟨yP ho ha.h hb.h hm⟩
theorem fS {op:CmpOp} {r:R2} (ho:OpR X (compareOp op) r) (ha:JE X a ta) (hb:JE X b tb) (hm:behindInMarks op b=false):JT X (.Compare a [op] [b] pos) (dG (tOp r ta tb)):=⟨xR ho ha.h hb.h hm⟩
theorem CQ {op op':CmpOp} {r r':R2} (ho:OpR X (compareOp op) r) (ho':OpR X (compareOp op') r') (ha:JE X a ta) (hb:JE X b tb) (hc:JE X c tc) (hm:lastMarks [op,op'] [b,c]=false):JE X (.Compare a [op,op'] [b,c] pos) (iX r r' ta tb tc):=⟨vS ho ho' ha.h hb.h hc.h hm⟩
theorem yF {op op':CmpOp} {r r':R2} (ho:OpR X (compareOp op) r) (ho':OpR X (compareOp op') r') (ha:JE X a ta) (hb:JE X b tb) (hc:JE X c tc) (hm:lastMarks [op,op'] [b,c]=false):JT X (.Compare a [op,op'] [b,c] pos) (dG (iX r r' ta tb tc)):=⟨wt ho ho' ha.h hb.h hc.h hm⟩
theorem qV (h:JE X e te) (he:∀ whole,isTrue e X.env whole=(do let v<-whole;standAt e.pos;holding [v] (truthy v))):JT X e (tB te):=⟨CT h.h he⟩
theorem i0 (ha:JT X a tA):JT X (.UnaryOp .Not a pos) (pe tA):=⟨BO ha.h⟩
theorem nT (ha:JT X a tA):JW X (.BoolOp .Or [a] pos) tA:=⟨pw_or1 ha.h⟩
theorem yX (ha:JT X a tA) (hb:JW X (.BoolOp .Or (b :: rest) pos) tB'):JW X (.BoolOp .Or (a :: b :: rest) pos) (tOr tA tB'):=⟨pw_or ha.h hb.h⟩
theorem eW (h:JW X e tA):JT X e tA:=⟨PW.pt h.h⟩
theorem iE {x1} (h:JA X es t):JE X (.Tuple es x1 pos) (gz t):=⟨CS h.h⟩
theorem nj (h:JA X es t):JE X (.List es pos) (kZ t):=⟨C3 h.h⟩
theorem eIx {r:R2} (hr:IxR X r) (ha:JE X a ta) (hb:JE X b tb) (hs:sv b):JE X (.Subscript a b pos) (tOp r ta tb):=⟨Gq hr ha.h hb.h hs⟩
theorem Ef:JO X none jg:=⟨zq⟩
theorem eP (h:JE X e te):JO X (some e) (u0 te):=⟨xT h.h⟩
theorem eSl {p2:Pos} {lo hi:Option Expr} {tl th:TO} {r:V->Option Int->Option Int->Hp->VK->Prop} (hr:SlR X r) (he:JE X e te) (hl:JO X lo tl) (hu:JO X hi th):JE X (.Subscript e (.Slice lo hi none p2) pos) (tSl r te tl th):=⟨v7 hr he.h hl.h hu.h⟩
theorem ePN:JP X pos [] [] []:=⟨zd⟩
theorem ePC {k v:Expr} {ks:List (Option Expr)} {vs:List Expr} {tk tv:TE} {trs:List (TE×TE)} (hk:JE X k tk) (hv:JE X v tv) (hr:JP X pos ks vs trs):JP X pos (some k :: ks) (v :: vs) ((tk,tv) :: trs):=⟨wo hk.h hv.h hr.h⟩
theorem gC {i:Nat} {pos':Pos} (he:JE X e te) (hN:X.N.Nodup) (hi:X.N[i]?=some x) (hx:Loc X.env.scope x) (hs:swapsWith e (some (.Name x pos')) pos.line X.env=pure false) (hf:X.fn x=true\/X.env.scope.names.lookup x=some .local) :
  JS X (.Assign [.Name x pos'] e pos) (dB te (aZ i)):=⟨xK hN hi hx he.h hs hf⟩
theorem GB {iter tg:Expr} {body:List Stmt} {wi:TI} {g:TG} {tb:TS} (hi:JI X tg iter wi) (hg:JG X tg g) (hb:JSs X body tb) (hp:PassesOwn (model X.prog X.w) X.A X.env X.xe) (hc:X.calm=true) (hs:∀ x,foldedSetIterable iter X.env x=pure x):JS X (.For tg iter body [] pos) (zW wi g tb):=⟨Ah hp hc hi.h hg.h hb.h hs⟩
theorem BN {c:Expr} {body:List Stmt} {tc:TT} {tb:TS} (hc:JT X c tc) (hb:JSs X body tb) (hp:PassesOwn (model X.prog X.w) X.A X.env X.xe):JS X (.While c body [] pos) (oT tc tb):=⟨vY hp hc.h hb.h⟩
theorem lJ {a b:List Stmt} {tc:TT} {t u:TS} (hc:JT X c tc) (ha:JSs X a t) (hb:JSs X b u):JS X (.If c a b pos) (iO tc t u):=⟨Fu hc.h ha.h hb.h⟩
theorem eZ (he:JE X e te):JS X (.Return (some e) pos) (cH te):=⟨C8 he.h⟩
theorem eGN {i:Nat} (hN:X.N.Nodup) (hi:X.N[i]?=some x) (hx:Loc X.env.scope x) (hf:X.fn x=true\/X.env.scope.names.lookup x=some .local):JG X (.Name x pos) (aZ i):=⟨oK hN hi hx hf⟩
theorem me:JSs X [] cA:=⟨zF⟩
theorem cM {s:Stmt} {t:TS} (h:JS X s t):JSs X [s] t:=⟨t7 h.h⟩
theorem cF {s:Stmt} {rest:List Stmt} {t u:TS} (h:JS X s t) (hr:JSs X rest u):JSs X (s :: rest) (b8 t u):=⟨vB h.h hr.h⟩
theorem vV {elt iter:Expr} {px:Pos} {ifs:List Expr} {scope:Scope} {wi:TI} {tt:TT} {js:List Nat} (ys:List Str) (hi:JI X (.Name x px) iter wi) (ht:JTs X (x :: ys) scope ifs tt) (he:JC X (x :: ys) scope elt te)
  (hc:X.calm=true) (B:i6 X scope x) (nd:(x :: ys).Nodup) (cap:hZ X scope ys js) (hs:∀ x,foldedSetIterable iter X.env x=pure x):JE X (.ListComp elt [⟨.Name x px,iter,ifs,0⟩] scope pos) (jR js wi tt te):=⟨zm hc hi.h B nd cap ht.h he.h hs⟩
theorem BK {elt iter:Expr} {y:Str} {px py spos:Pos} {ifs:List Expr} {scope:Scope} {wi:TI} {tt:TT} {js:List Nat} {i:Nat} (ys:List Str) (hi:JI X (.Name x px) iter wi) (ht:JTs X (x :: ys) scope ifs tt) (he:JC X (x :: ys) scope elt te)
  (hN:X.N.Nodup) (hi':X.N[i]?=some y) (hy:X.env.scope.names.lookup y=some .local) (hsw:swapsWith (.ListComp elt [⟨.Name x px,iter,ifs,0⟩] scope pos) (some (.Name y py)) spos.line X.env=pure true)
  (hc:X.calm=true) (B:i6 X scope x) (nd:(x :: ys).Nodup) (cap:hZ X scope ys js) (hs:∀ x,foldedSetIterable iter X.env x=pure x):JS X (.Assign [.Name y py] (.ListComp elt [⟨.Name x px,iter,ifs,0⟩] scope pos) spos) (dB (jR js wi tt te) (aZ i)):=⟨xU hN hi' hy hsw hc hi.h B nd cap ht.h he.h hs⟩
theorem eC {N:List Str} {scope:Scope} (h:∀ C s3 H3 ex,JE (cxB X N scope C s3 H3 ex) e te):JC X N scope e te:=⟨fun C s3 H3 ex=>(h C s3 H3 ex).h⟩
theorem eT0 {N:List Str} {scope:Scope}:JTs X N scope [] wj:=⟨fun _ _ _ _=>yi⟩
end
end L2
end
section
namespace L2
open PySem PySem.Spec PyProof.Rows
def tyN:PyData->String
 | .none => "NoneType" | .bool _ => "bool" | .int _ => "int" | .str _ => "str" | .list _ => "list" | .tuple _ => "tuple" | .dict _ => "dict"
def isS:PyData->Bool | .str _=>true | _=>false
def isI:PyData->Bool | .int _=>true | .bool _=>true | _=>false
def isB:PyData->Bool | .bool _=>true | _=>false
def isT:PyData->Bool | .tuple _=>true | _=>false
def isL:PyData->Bool | .list _=>true | _=>false
section
variable {K:Fg}
theorem FW (d:PyData):PySem.W.kitOne K (.type (tyN d)) (.type "str")=some (isS d):=by cases d <;> with_unfolding_all rfl
theorem E8 (d:PyData):PySem.W.kitOne K (.type (tyN d)) (.type "int")=some (isI d):=by cases d <;> with_unfolding_all rfl
theorem Ec (d:PyData):PySem.W.kitOne K (.type (tyN d)) (.type "bool")=some (isB d):=by cases d <;> with_unfolding_all rfl
theorem BM (d:PyData):PySem.W.kitOne K (.type (tyN d)) (.type "tuple")=some (isT d):=by cases d <;> with_unfolding_all rfl
theorem AL (d:PyData):PySem.W.kitOne K (.type (tyN d)) (.type "list")=some (isL d):=by cases d <;> with_unfolding_all rfl
variable {p:Addr} {H:Hp} {d:PyData} {v:V} {Q:VK}
end
end L2
end
section
namespace L2
open PySem PySem.Spec PyProof.Rows
theorem vy {b:Bool} {A B:Prop} (e:b=true) (h:A):if b=true then A else B:=by rw [Ip e];exact h
theorem vH {b:Bool} {A B:Prop} (e:b=false) (h:B):if b=true then A else B:=by rw [Im (by rw [e];exact IE)];exact h
theorem m8 {b:Bool} {A B:Prop} (h1:b=true->A) (h2:b=false->B):if b=true then A else B:=by
 cases b with
 | true=>rw [Ip rfl];exact h1 rfl
 | false=>rw [Im IE];exact h2 rfl
section
variable {r r':R2} {x y:V} {H:Hp} {Q:VK}
theorem BV {K:Fg} {z:Str} (l:z.length<=sizeLine) (h:Q (.int z.length) H):Dk K [.str z] H Q:=⟨_,_,rfl,⟨l,rfl⟩,h⟩
theorem Bc {K:Fg} {p:Addr} {xs:List V} (s:SqL K H p xs) (h:Q (.int xs.length) H):Dk K [.ref p] H Q:=⟨_,_,rfl,.inl ⟨xs,s,rfl⟩,h⟩
theorem C7 {K:Fg} {p:Addr} {xs:List V} (s:SqT K H p xs) (h:Q (.int xs.length) H):Dk K [.ref p] H Q:=⟨_,_,rfl,.inr ⟨xs,s,rfl⟩,h⟩
theorem Fb {i:Int} (h:Q (.int (if i < 0 then -i else i)) H):ET [.int i] H Q:=⟨i,rfl,h⟩
end
theorem Fun.okJ {P:Program} {w:World} {K:Fg} {mg:Str->Option Value} {base:Heap} {x qual:Str} {st:Stmt} {f:Addr} {fd:FuncData} {N ps:List Str} {k:Nat} {sp:Sp} (F:Fun K x qual st f fd) (S:aI N ps (aa st)) (len:∀ vs H Q E,sp vs H Q E->vs.length=ps.length)
  (hbody:∀ (cdv:Value) (A:Around) (outer:List Env) (s:Shared) (H:Hp) (vs:List V) (Q:VK) (E:XK),cj k (A.deeper (envOfC qual (aa st) s.heap.objs.size f cdv))->sp vs H Q E ->
   ∃ t,JSs (fh CX0 P w K mg base N qual (aa st) f cdv A outer s H E).nox (ag st) t/\t { nx:=fun _ H'=>Q .non H',rt:=Q } (start N vs) H):dN P w K mg base CX0 (k+1) f fd ps sp :=
 F.ok S len fun cdv A outer s H vs Q E hr h=>let ⟨t,j,q⟩:=hbody cdv A outer s H vs Q E hr h;⟨t,j.h,q⟩
end L2
end
section
namespace L2
open PySem PySem.Spec PyProof.Rows
section
variable {X:Cx}
def Cg (K:Fg):List V->Hp->VK->Prop:=fun xs H Q=>∃ p ys,xs=[.ref p]/\(SqL K H p ys\/SqT K H p ys)/\∀ l,H l=none->Q (.ref l) (upd H l (.lst ys))
def wO (K:Fg):List V->Hp->VK->Prop:=fun xs H Q=>∃ p ys,xs=[.ref p]/\((SqL K H p ys/\∀ l,H l=none->Q (.ref l) (upd H l (.tup ys)))\/(SqT K H p ys/\Q (.ref p) H))
theorem qK:bM X (.type "list") (Cg X.K):=ma
theorem oJ:bM X (.type "tuple") (wO X.K):=lF
end
end L2
end
section
namespace L2
open PySem PySem.Spec PyProof.Rows
section
variable {K:Fg} {js:List Nat} {tt:TT} {te:TE} {σ:St} {H:Hp} {Q:VK} {a:Addr} {xs:List V}
end
def uR (xs:List Str):St:=xs.map fun _=>none
def Dh (n:List Str) (js:List Nat) (wi:TI) (g:TG) (te:TE):TE:=fun σ H Q=>wi σ H fun J H1=>∃ W:Nat->Nat->St->List V->Hp->Prop,(∃ m,W 0 m (uR n++bS js σ) [] H1)/\∀ i m σB acc H,W i m σB acc H ->
 (J.stop i H/\acc.length<=sizeLine/\∀ p,H p=none->Q (.ref p) (upd H p (.lst acc)))\/(J.go i H/\acc.length < sizeLine/\∀ x H',J.yld i H x H' ->
  g x σB H' fun σ2 H2=>te σ2 H2 fun y H3=>∃ m',m' < m/\W (i+1) m' σ2 (acc++[y]) H3)
section
variable {K:Fg} {n:List Str} {js:List Nat} {g:TG} {te:TE} {σ:St} {H:Hp} {Q:VK} {a:Addr} {xs:List V}
end
section
variable {K:Fg} {js:List Nat} {ti:TE} {tt:TT} {te:TE} {σ:St} {H:Hp} {Q:VK} {a:Addr} {xs:List V}
end
section
variable {K:Fg} {js:List Nat} {ti:TE} {tt:TT} {te:TE} {σ:St} {H:Hp} {Q:VK} {a:Addr} {xs:List V}
end
section
variable {X:Cx} {e st:Expr} {te:TE} {lo hi:Option Expr} {tl th ts:TO} {pos p2:Pos}
end
section
variable {X:Cx}
end
def G7 (K:Fg) (te:TE):TT:=fun σ H Q=>te σ H fun x H'=>∃ k,DJ K x H' k/\Q k H'
end L2
end
section
namespace L2
open PySem PySem.Spec PyProof.Rows
section
variable {X:Cx} {a b:Expr} {ta tb:TE} {pos:Pos}
end
section
variable {ty td:TE} {σ:St} {H:Hp} {Q:VK}
end
section
variable {X:Cx} {es:List Expr} {t:TGs} {pos:Pos} {x:Str} {i:Nat}
end
section
variable {K:Fg} {σ:St} {H:Hp} {Q:St->Hp->Prop} {v x:V} {xs:List V} {t:TG} {u:TGs} {n:Nat} {a:Addr}
end
end L2
end
section
namespace L2
open PySem PySem.Spec PyProof.Rows
section
variable {X:Cx}
def tFs:List TE->Str->TE
 | [],out=>fun _ H Q=>out.length<=sizeLine/\Q (.str out) H
 | t :: ts,out=>fun σ H Q=>t σ H fun x H1=>∃ y,x=.str y/\(out++y).length<=sizeLine/\tFs ts (out++y) σ H1 Q
def PFs (X:Cx) (vs:List Expr) (ts:List TE):Prop :=
 ∀ (pins:List (Addr×Obj)) (s:Shared) (σ:St) (H:Hp) (Q:VK) (out:Str),Inv X pins σ H s->tFs ts out σ H Q->wpAny (model X.prog X.w) X.A (joinParts out (evalEach vs X.env)) (EP X pins σ Q) X.xe s
theorem yb:PFs X [] []:=by
 intro pins s σ H Q out I h;exact joinParts_nil ⟨.str out,H,I.tok _,⟨_,rfl⟩,h.2⟩ h.1
theorem vM {v:Expr} {vs:List Expr} {t:TE} {ts:List TE} (hv:PE X v t) (hr:PFs X vs ts):PFs X (v :: vs) (t :: ts):=by
 intro pins s σ H Q out I h;show wpAny _ _ (joinParts out (eval v X.env :: evalEach vs X.env)) _ _ s;refine joinParts_cons (thn (hv pins s σ H _ I h) fun u s1 ⟨x,H1,I1,r1,y,ex,hz,q⟩=>?_);subst ex;obtain ⟨t',rfl⟩:=r1;exact ⟨hz,hr pins s1 σ H1 Q _ I1 q⟩
end
structure JF (X:Cx) (vs:List Expr) (ts:List TE):Prop where
 h:PFs X vs ts
section
variable {X:Cx}
theorem eF0:JF X [] []:=⟨yb⟩
theorem eFc {v:Expr} {vs:List Expr} {t:TE} {ts:List TE} (hv:JE X v t) (hr:JF X vs ts):JF X (v :: vs) (t :: ts):=⟨vM hv.h hr.h⟩
end
section
variable {te:TE} {ts:List TE} {t:TE} {σ:St} {H:Hp} {Q:VK} {out:Str}
end
section
variable {X:Cx} {o e:Expr} {apos cpos:Pos} {te:TE} {a:Addr} {f:Str->Option V}
end
section
variable {js:List Nat} {ta:TA} {tt:TT} {te:TE} {σ:St} {H:Hp} {Q:VK}
end
section
variable {K:Fg} {js:List Nat} {ti:TE} {tt:TT} {te:TE} {σ:St} {H:Hp} {Q:VK} {a:Addr} {xs:List V}
end
end L2
end
section
namespace L2
open PySem PySem.Spec PyProof.Rows
section
variable {X:Cx}
def z9 (K:Fg):R2:=fun x y H Q=>∃ l b xs zs,x=.ref l/\y=.ref b/\SqL K H l xs/\SqL K H b zs/\xs.length+zs.length<=sizeLine/\∀ p,H p=none->Q (.ref p) (upd H p (.lst (xs++zs)))
theorem yT:OpR X (binaryOp .Add) (z9 X.K):=by
 intro pins s σ H x y v u Q I rx ry h;obtain ⟨l,b,xs,zs,rfl,rfl,hH,hB,hz,q⟩:=h;cases rx;cases ry;obtain ⟨its,r,p,_⟩:=I.list hH;obtain ⟨its2,r2,p2,_⟩:=I.list hB;obtain ⟨⟨cls,dd,data,sl⟩,n,ho,hc,hd0,hd⟩:=p;obtain ⟨⟨cls2,dd2,data2,sl2⟩,n2,ho2,hc2,hd02,hd2⟩:=p2;simp only at hc hd hc2 hd2;subst hc hd hc2 hd2;have e:its.toArray++its2.toArray=(its++its2).toArray:=by simp
 refine concat_meets ⟨_,ho,rfl⟩ ⟨_,ho2,rfl⟩ noFill_list_add seq_list_add PySem.F.slot_list_add PySem.F.entry_list_add (PySem.F.args_list_add_2 _ _) (list_addW l b its.toArray its2.toArray n n2 dd dd2 sl sl2 (by rw [Iy,Iy,<-r.length,<-r2.length];exact hz)) ⟨ho,ho2,?_⟩;rw [e];exact ⟨.ref _,_,I.HV (t':=s.toks) (r.append r2) (by rw [Ic];omega),rfl,q _ I.fresh⟩
end
end L2
end
section
namespace L2
open PySem PySem.Spec PyProof.Rows
mutual
def hkB:PyData->Bool
 | .int _=>true
 | .str _=>true
 | .tuple ds=>ve ds
 | _=>false
def ve:List PyData->Bool
 | []=>true
 | d :: ds=>hkB d&&ve ds
end
theorem kR:∀ {ds:List PyData},ve ds=true↔∀ d∈ds,hkB d=true
 | []=>by simp [ve]
 | d :: ds=>by simp [ve,kR (ds:=ds)]
def kyB (d:PyData):Bool:=hkB d&&d.canLay0&&decide (d.depth<=6)
def hk6 (d:PyData):Bool:=hkB d&&decide (d.depth<=6)
mutual
theorem iB:∀ (d e:PyData),hkB d=true->hkB e=true->(PyData.eqv d e=true↔d=e)
 | .int i,e,_,h=>by
  cases e with
  | int j=>simp [PyData.eqv]
  | str y=>simp [PyData.eqv]
  | tuple es=>simp [PyData.eqv]
  | _=>cases h
 | .str x,e,_,h=>by
  cases e with
  | int j=>simp [PyData.eqv]
  | str y=>simp [PyData.eqv]
  | tuple es=>simp [PyData.eqv]
  | _=>cases h
 | .tuple ds,e,h1,h=>by
  cases e with
  | int j=>simp [PyData.eqv]
  | str y=>simp [PyData.eqv]
  | tuple es=>simp only [PyData.eqv,PyData.tuple.injEq];exact tj ds es h1 h
  | _=>cases h
 | .none,_,h,_=>by cases h
 | .bool _,_,h,_=>by cases h
 | .list _,_,h,_=>by cases h
 | .dict _,_,h,_=>by cases h
theorem tj:∀ (ds es:List PyData),ve ds=true->ve es=true->(PyData.eqvAll ds es=true↔ds=es)
 | [],[],_,_=>by simp [PyData.eqvAll]
 | [],_ :: _,_,_=>by simp [PyData.eqvAll]
 | _ :: _,[],_,_=>by simp [PyData.eqvAll]
 | d :: ds,e :: es,h1,h2=>by
  simp only [ve,Ji] at h1 h2;rw [PyData.eqvAll,Ji,iB d e h1.1 h2.1,tj ds es h1.2 h2.2,List.cons.injEq]
end
theorem mT {d:PyData} {ds:List PyData} (h:d∈ds):d.depth+1<=(PyData.tuple ds).depth:=by
 have:∀ {ds:List PyData},d∈ds->d.depth<=PyData.depthAll ds:=by
  intro ds;induction ds with
  | nil=>intro h;cases h
  | cons x xs ih =>
   intro h;rw [PyData.depthAll];rcases Iz.mp h with rfl | h
   ·exact Nat.le_max_left _ _
   ·exact IY (ih h) (Nat.le_max_right _ _)
 rw [PyData.depth];have:=this h;omega
theorem iS {h:Heap}:∀ {vs:List Value} {ds:List PyData} {as:List Addr},ReadsAll h vs ds as->vs.length=ds.length/\∀ (i:Nat) (v:Value),vs[i]?=some v->∃ d bs,ds[i]?=some d/\Reads h v d bs
 | _,_,_,.nil=>⟨rfl,fun i v e=>by simp at e⟩
 | _,_,_,.cons r t=>by
  obtain ⟨l,f⟩:=iS t;refine ⟨by simp [l],fun i v e=>?_⟩;cases i with
  | zero=>simp at e;subst e;exact ⟨_,_,rfl,r⟩
  | succ i=>simpa using f i v (by simpa using e)
section
variable {P:Program} {w:World} {A:Around} {E:Value->Shared->Prop} {s:Shared}
theorem ur:∀ (n:Nat) {d:PyData} {v:Value} {as:List Addr} {Q:Bool->Shared->Prop},Reads s.heap v d as->hkB d=true->d.depth<=n->Q true s->wpAny (model P w) A (eqIsQuiet n v) Q E s:=by
 intro n;induction n with
 | zero =>
  intro d v as Q r h hd q;cases r with
  | int i t=>rw [eqIsQuiet_byValue _ rfl];exact Il q
  | str x t=>rw [eqIsQuiet_byValue _ rfl];exact Il q
  | tuple _ _ _ _=>rw [PyData.depth] at hd;omega
  | _=>cases h
 | succ n ih =>
  intro d v as Q r h hd q;cases r with
  | int i t=>rw [eqIsQuiet_byValue _ rfl];exact Il q
  | str x t=>rw [eqIsQuiet_byValue _ rfl];exact Il q
  | @tuple a o vs k xs as ho hc hdt ra =>
   have hT:s.TypeIs (.ref a) "tuple" := ⟨o,ho,hc⟩;unfold eqIsQuiet;refine Ib (wpAny_specialOf hT F.slot_tuple_eq.lookup ?_);show wpAny _ _ (isInstance (.ref a) (.type "tuple")>>=_) _ _ s;refine Ib (wpAny_isInstance hT isSubtype_tuple_tuple ?_);simp only [Bool.not_true,Kr,Kk];refine Ib (wpAny_seqItems ho hdt (Ib ?_));show wpAny _ _ (forIn vs _ _) _ _ s;rw [<- Array.forIn_toList];have hx:=kR.mp h;refine Kw _ (fun rest r s'=>r.1=none/\s'=s/\∀ u∈rest,u∈vs.toList) _ ?_ ?_ _ _ ⟨rfl,rfl,fun _ z=>z⟩
   ·rintro u rest r s' ⟨hr,rfl,hall⟩;obtain ⟨i,hi⟩:=Ka.mp (hall u Ik);obtain ⟨d',bs,e1,r1⟩:=(iS ra).2 i u hi;have hm:=IM e1;refine Ib (ih r1 (hx d' hm) (by have:=mT hm;omega) ?_);simp only [Bool.not_true,Kr,Kk];exact Il ⟨rfl,rfl,fun y hy=>hall y (Io _ hy)⟩
   ·rintro ⟨r1,r2⟩ s' ⟨hr,rfl,_⟩;simp only at hr;subst hr;exact Il q
  | _=>cases h
theorem xi:∀ (n:Nat) {A:Around} {s:Shared} {E:Value->Shared->Prop} {d:PyData} {v:Value} {as:List Addr} {Q:Int->Shared->Prop},Reads s.heap v d as->hkB d=true->d.depth<=n->A.units+n < cLine ->
  (∀ t,Q (cI w d) { s with toks:=t })->wpAny (model P w) A (pyHash v) Q E s:=by
 intro n;induction n with
 | zero =>
  intro A s E d v as Q r h hd hu q;cases r with
  | int i t=>exact wpAny_pyHash_int (q _)
  | str x t=>exact wpAny_pyHash_str (q _)
  | tuple _ _ _ _=>rw [PyData.depth] at hd;omega
  | _=>cases h
 | succ n ih =>
  intro A s E d v as Q r h hd hu q;cases r with
  | int i t=>exact wpAny_pyHash_int (q _)
  | str x t=>exact wpAny_pyHash_str (q _)
  | @tuple a o vs k xs as ho hc hdt ra =>
   have hT:s.TypeIs (.ref a) "tuple" := ⟨o,ho,hc⟩;have hx:=kR.mp h;unfold pyHash;first | unfold pyHashByItsType | skip
   first | refine Ib (wpAny_cRoomFor_or (.inr (by omega)) ?_) | skip
   refine Ib (wpAny_specialOf hT F.slot_tuple_hash.lookup ?_);show wpAny _ _ (if (some (Value.builtin "tuple.__hash__")==some Value.none)=true then _ else _) Q E s;rw [Im (by rw [beq_builtin_none];exact IE)];refine Ib (wpAny_specialOf hT F.slot_tuple_hash.lookup ?_);show wpAny _ _ (callSpecialIfBoundUnlessNone? (.ref a) "__hash__" _>>=_) Q E s;refine Ib (wpAny_callSpecialIfBoundUnlessNone?_slot hT F.slot_tuple_hash (Kf F.slot_tuple_hash hT F.entry_tuple_hash ?_ (F.args_tuple_hash_1 _)));show wpAny _ _ (Builtin.Tuple.tupleItemsOf (.ref a)>>=_) _ _ s;refine Ib (wpAny_tupleItemsOf ho hdt (Ib ?_));rw [<- Array.forIn_toList];have hap:∀ (l m:List PyData),cX w (l++m)=cX w l++cX w m:=by
    intro l m;induction l with
    | nil=>rfl
    | cons x l ihl=>rw [KY,cX,cX,ihl];rfl
   refine Kw _ (fun rest (b:Array Int) s'=>∃ i,rest=vs.toList.drop i/\b.toList=cX w (xs.take i)/\∃ t,s'={ s with toks:=t }) _ ?_ ?_ _ _ ⟨0,rfl,rfl,_,rfl⟩
   ·rintro u rest b s' ⟨i,hr,hb,t,rfl⟩;have hi:vs.toList[i]?=some u:=by
     have:(vs.toList.drop i)[0]?=some u:=by rw [<- hr];rfl
     simpa using this
    obtain ⟨d',bs,e1,r1⟩:=(iS ra).2 i u hi;have hm:=IM e1;refine Ib (ih (s:={ s with toks:=t }) r1 (hx d' hm) (by have:=mT hm;omega) (by have:A.in1.units=A.units+1:=rfl;omega) fun t'=>?_);have nx:rest=vs.toList.drop (i+1)/\(b.push (cI w d')).toList=cX w (xs.take (i+1))/\∃ t'',({ s with toks:=t' }:Shared)={ s with toks:=t'' }:=by
     refine ⟨?_,?_,_,rfl⟩
     ·have:=congrArg List.tail hr;simpa [List.tail_drop] using this
     ·rw [List.take_add_one,e1,hap,Array.toList_push,hb];rfl
    first
     | exact Il ⟨i+1,nx⟩
     | exact Ib (Il (Il ⟨i+1,nx⟩))
   ·rintro b s' ⟨i,hr,hb,t,rfl⟩;have hi:vs.toList.length<=i:=by
     have:=congrArg List.length hr;simp at this;simpa using (by omega:vs.size<=i)
    rw [Jx (by rw [<- (iS ra).1];exact hi)] at hb;show wpAny _ _ (retInt (Builtin.Tuple.tupleHashOf b.toList)) _ _ _;rw [hb];refine wpAny_ret_mkInt ?_;have q':=q;rw [cI] at q';unfold reduceHash at q';show wpAny _ _ (if (decide (-(2:Int) ^ 63<=Builtin.Tuple.tupleHashOf (cX w xs))&&decide (Builtin.Tuple.tupleHashOf (cX w xs) < 2 ^ 63))=true then _ else _) Q E _;by_cases hc:(decide (-(2:Int) ^ 63<=Builtin.Tuple.tupleHashOf (cX w xs))&&decide (Builtin.Tuple.tupleHashOf (cX w xs) < 2 ^ 63))=true
    ·rw [Ip hc];rw [Ip hc] at q';exact Il (q' _)
    ·rw [Im hc];rw [Im hc] at q';exact Ib (JK (Il (q' _)))
  | _=>cases h
end
end L2
end
section
namespace L2
open PySem PySem.Spec PyProof.Rows
theorem aV {d:PyData}:kyB d=true↔hkB d=true/\d.canLay0=true/\d.depth<=6:=by simp [kyB,and_assoc]
section
variable {P:Program} {w:World} {A:Around} {E:Value->Shared->Prop} {s:Shared}
structure zR (w:World) (h:Heap) (es:Array DictEntry) (ks:List PyData):Prop where
 len:es.size=ks.length
 nd:ks.Nodup
 at_:∀ (j:Nat) (k:PyData),ks[j]?=some k->kyB k=true/\∃ e bs,es[j]?=some e/\e.hash=cI w k/\Reads h e.key k bs
theorem zR.at' {h:Heap} {es:Array DictEntry} {ks:List PyData} (N:zR w h es ks) {j:Nat} {e:DictEntry} (he:es[j]?=some e):∃ k bs,ks[j]?=some k/\kyB k=true/\e.hash=cI w k/\Reads h e.key k bs:=by
 have hj:j < ks.length:=by rw [<- N.len];exact (Array.getElem?_eq_some_iff.mp he).1
 obtain ⟨a,e',bs,b,c,r⟩:=N.at_ j _ (Ia hj);rw [he] at b;cases b;exact ⟨_,bs,Ia hj,a,c,r⟩
theorem zR.one {h:Heap} {es:Array DictEntry} {ks:List PyData} (N:zR w h es ks) {i j:Nat} {k:PyData} (hi:ks[i]?=some k) (hj:ks[j]?=some k):i=j :=
 (List.getElem?_inj (Ie.mp hi).1 N.nd).mp (hi.trans hj.symm)
theorem y7 {key key':Value} {k k':PyData} {as bs:List Addr} (hu:A.units+6 < cLine) (r:Reads s.heap key k as) (r':Reads s.heap key' k' bs) (h:kyB k=true) (h':kyB k'=true):SeqAt.EqAt A s key' key (PyData.eqv k' k):=by
 rw [aV] at h h';exact SeqAt.eqAt_reads k' k A s key' key bs as r' r h'.2.1 h.2.1 (by have:=Nat.min_le_right k'.depth k.depth;omega)
theorem CC {key:Value} {k:PyData} {as:List Addr} {st:List Value} {Q:Bool->Shared->Prop} (r:Reads s.heap key k as) (h:kyB k=true) (hst:∀ v∈st,∃ k' bs,Reads s.heap v k' bs/\kyB k'=true) (q:Q false s) :
  wpAny (model P w) A (tableMayTell key st) Q E s:=by
 rw [aV] at h;unfold tableMayTell;split
 ·exact Il q
 ·refine Ib (ur 8 r h.1 (by omega) ?_);rw [Im (by simp)];refine Ib (Kw _ (fun rest b s'=>s'=s/\b=(none,())/\∀ v∈rest,v∈st) _ ?_ ?_ _ _ ⟨rfl,rfl,fun _ z=>z⟩)
  ·rintro v rest b s' ⟨rfl,rfl,hr⟩;obtain ⟨k',bs,r',h'⟩:=hst v (hr v Ik);rw [aV] at h';refine Ib (ur 8 r' h'.1 (by omega) ?_);rw [Im (by simp)];exact Il ⟨rfl,rfl,fun v hv=>hr v (Io _ hv)⟩
  ·rintro b s' ⟨rfl,rfl,_⟩;exact Il q
theorem u6 {h:Heap} {v:Value} {x:Str} {as:List Addr} (r:Reads h v (.str x) as):∃ t,v=.str x t:=by cases r;exact ⟨_,rfl⟩
theorem oI {h:Heap} {v:Value} {x:Str} {k:PyData} {as:List Addr} (r:Reads h v k as) (hk:hkB k=true) (hp:v.isStr x=true):k=.str x:=by
 cases r with
 | str y t=>simp [Value.isStr] at hp;simp [hp]
 | int i t=>simp [Value.isStr] at hp
 | tuple _ _ _ _=>simp [Value.isStr] at hp
 | _=>cases hk
theorem rh {α:Type} {c:Prop} [Decidable c] {x y:Sem α} {Q:α->Shared->Prop} (hx:wpAny (model P w) A x Q E s) (hy:wpAny (model P w) A y Q E s):wpAny (model P w) A (if c then x else y) Q E s:=by
 split
 ·exact hx
 ·exact hy
theorem C0 {α:Type} {c:Prop} [Decidable c] {m:Sem Bool} {f:Bool->Sem α} {Q:α->Shared->Prop} (hm:∀ Q':Bool->Shared->Prop,Q' false s->wpAny (model P w) A m Q' E s) (h:wpAny (model P w) A (f false) Q E s) :
  wpAny (model P w) A (if c then (pure false:Sem Bool)>>=f else m>>=f) Q E s:=rh (Ib (Il h)) (Ib (hm _ h))
theorem xb {d:Addr} {o:Obj} {es:Array DictEntry} {ep:Nat} {ks:List PyData} {k:PyData} {key:Value} {as:List Addr} {Q:Option Nat->Shared->Prop}
  (hu:A.units+6 < cLine) (hk:Reads s.heap key k as) (hky:kyB k=true) (ho:s.heap.get? d=some o) (hd:o.data=.dict es ep) (N:zR w s.heap es ks)
  (hnone:(∀ j:Nat,ks[j]?≠some k)->Q none s) (hsome:∀ j:Nat,ks[j]?=some k->Q (some j) s):wpAny (model P w) A (dictFind d key (cI w k)) Q E s:=by
 have hk3:=aV.mp hky;have hsz:=N.len;have hash_at:∀ j:Nat,ks[j]?=some k->((es[j]?.map (·.hash))==some (cI w k))=true:=fun j hj=>by
  obtain ⟨_,e,bs,he,hh,_⟩:=N.at_ j k hj;rw [he];simp [hh]
 have same:∀ {k'},kyB k'=true->(PyData.eqv k' k=true↔k'=k):=fun h'=>iB _ _ (aV.mp h').1 hk3.1;have done:∀ i:Nat,i<=es.size->(∀ j:Nat,j < i->ks[j]?≠some k)->[]=(List.range' i (es.size - i)).filter (fun i=>(es[i]?.map (·.hash))==some (cI w k))->∀ j:Nat,ks[j]?≠some k:=by
  intro i hi hno hr j hj;rcases Nat.lt_or_ge j i with h | h
  ·exact hno j h hj
  ·have hjl:j < es.size:=by rw [hsz];exact (Ie.mp hj).1
   have:=List.filter_eq_nil_iff.mp hr.symm j (List.mem_range'_1.mpr ⟨h,by omega⟩);exact this (hash_at j hj)
 have skip:∀ {i x:Nat},(∀ j:Nat,j < i->ks[j]?≠some k)->(∀ j:Nat,i<=j->j < x->((es[j]?.map (·.hash))==some (cI w k))=false)->∀ j:Nat,j < x->ks[j]?≠some k:=by
  intro i x hno hs j hjx hj;rcases Nat.lt_or_ge j i with h | h
  ·exact hno j h hj
  ·have:=hs j h hjx;rw [hash_at j hj] at this;cases this
 have step:∀ {x:Nat} {k':PyData},ks[x]?=some k'->k'≠k->(∀ j:Nat,j < x->ks[j]?≠some k)->∀ j:Nat,j < x+1->ks[j]?≠some k:=by
  intro x k' hx hne hno j hj hjk;rcases Nat.lt_or_ge j x with h | h
  ·exact hno j h hjk
  ·have:j=x:=by omega
   subst this;rw [hx] at hjk;cases hjk;exact hne rfl
 have plain:wpAny (model P w) A (dictWalkPlain d key (cI w k) es (placesWithHash es.size (fun i=>es[i]?.map (·.hash)) (cI w k))) Q E s:=by
  unfold dictWalkPlain
  refine Ib (Kw _ (fun rest b s'=>s'=s/\b=(none,())/\∃ i:Nat,rest=(List.range' i (es.size - i)).filter (fun i=>(es[i]?.map (·.hash))==some (cI w k))/\i<=es.size/\∀ j:Nat,j < i->ks[j]?≠some k) _ ?_ ?_ _ _
   ⟨rfl,rfl,0,by rw [placesWithHash,List.range_eq_range',Nat.sub_zero],Jw _,fun _ h=>absurd h (Nat.not_lt_zero _)⟩)
  ·rintro x rest b s' ⟨rfl,rfl,i,hr,hi,hno⟩;obtain ⟨hix,hxn,hpx,hskip,hrest⟩:=filter_range'_cons _ _ _ _ _ hr.symm;have hlt:x < es.size:=by omega
   have hex:es[x]?=some es[x]:=Jp hlt;obtain ⟨k',bs,hkx,hk',hh,hr'⟩:=N.at' hex;have hno':=skip hno hskip;have hrest':rest=(List.range' (x+1) (es.size - (x+1))).filter (fun i=>(es[i]?.map (·.hash))==some (cI w k)):=by rw [hrest];congr 2;omega
   rw [hex] at hpx ⊢;have hhx:(es[x].hash==cI w k)=true:=by simpa using hpx
   dsimp only;rw [Ip hhx];refine Ib (J0 ho hd (Ib (y7 hu hk hr' hky hk' _ _ _ _ (Ib (J0 ho hd ?_)))));rw [Im (by simp)];by_cases z:k'=k
   ·subst z;rw [(same hky).mpr rfl];first | rw [Ip rfl] | skip
    exact Ib (JK (Il (Il (hsome x hkx))))
   ·have:PyData.eqv k' k=false:=by
     cases q:PyData.eqv k' k with
     | false=>rfl
     | true=>exact absurd ((same hk').mp q) z
    rw [this];rw [Im (by simp)];exact Ib (JK (Il ⟨rfl,rfl,x+1,hrest',hlt,step hkx z hno'⟩))
  ·rintro b s' ⟨rfl,rfl,i,hr,hi,hno⟩;exact Il (hnone (done i hi hno hr))
 have hst:∀ v∈(placesWithHash es.size (fun i=>es[i]?.map (·.hash)) (cI w k)).filterMap (fun i=>es[i]?.map (·.key)),∃ k' bs,Reads s.heap v k' bs/\kyB k'=true:=by
  intro v hv;obtain ⟨i,_,hi⟩:=List.mem_filterMap.mp hv;obtain ⟨e,he,rfl⟩:=Je.mp hi;obtain ⟨k',bs,_,h1,_,h2⟩:=N.at' he;exact ⟨k',bs,h2,h1⟩
 unfold dictFind;try with_reducible refine J2 ?_
 refine Ib (KL ho hd ?_);have shape:(∃ i t,key=.int i t)\/(∃ x t,key=.str x t/\k=.str x)\/∃ a,key=.ref a:=by
  cases hk with
  | int i t=>exact .inl ⟨i,t,rfl⟩
  | str x t=>exact .inr (.inl ⟨x,t,rfl,rfl⟩)
  | tuple _ _ _ _=>exact .inr (.inr ⟨_,rfl⟩)
  | _=>cases hk3.1
 rcases shape with ⟨i,t,rfl⟩ | ⟨x,t,rfl,ek⟩ | ⟨a,rfl⟩;refine rh plain ?_
 rotate_left
 refine rh ?_ (rh plain ?_)
 ·subst ek;unfold foundByValue;cases hf:es.findIdx? (·.key.isStr x) with
  | none =>
   refine Il (hnone fun j hj=>?_);obtain ⟨_,e,bs,he,_,r⟩:=N.at_ j _ hj;have:=Array.findIdx?_eq_none_iff.mp hf e (Array.mem_of_getElem? he);obtain ⟨t',e'⟩:=u6 r;rw [e'] at this;simp [Value.isStr] at this
  | some i =>
   have hi:=(Array.findIdx?_eq_some_iff_getElem.mp hf);obtain ⟨hlt,hp,_⟩:=hi;have hex:es[i]?=some es[i]:=Jp hlt;obtain ⟨k',bs,hkx,hk',hh,hr'⟩:=N.at' hex;have e1:k'=.str x:=oI hr' (aV.mp hk').1 hp;subst e1;dsimp only;rw [hex];dsimp only;refine Ib (J0 ho hd (Ib (y7 hu hk hr' hky hk' _ _ _ _ (Ib (J0 ho hd ?_)))));rw [Im (by simp),(same hky).mpr rfl];first | rw [Ip rfl] | skip
   exact Ib (JK (Il (hsome i hkx)))
 rotate_left
 refine rh plain ?_;have hany:¬(es.any fun e=>e.key==Value.ref a&&e.hash != cI w k)=true:=by
  rw [<- Array.any_toList,KZ];rintro ⟨e,hin,hc⟩;obtain ⟨j,hj⟩:=Ka.mp hin;obtain ⟨k',bs,_,_,h3,h4⟩:=N.at' (j:=j) (e:=e) (by simpa using hj);simp only [Ji,IZ,bne_iff_ne,ne_eq] at hc;rw [hc.1] at h4;exact hc.2 (by rw [h3,(PySem.Reads.unique h4 _ _ hk).1])
 dsimp only;rw [Im hany]
 all_goals
  refine C0 (fun Q' q=>CC hk hky hst q) ?_;try dsimp only
  rw [Im (by simp)]
  refine Ib (Kw _ (fun rest b s'=>s'=s/\∃ (i:Nat) (hit:Option Nat),b=(none,hit)/\rest=(List.range' i (es.size - i)).filter (fun i=>(es[i]?.map (·.hash))==some (cI w k))/\i<=es.size /\
    ((hit=none/\∀ j:Nat,j < i->ks[j]?≠some k)\/∃ j,hit=some j/\j < i/\ks[j]?=some k)) _ ?_ ?_ _ _
   ⟨rfl,0,none,rfl,by rw [placesWithHash,List.range_eq_range',Nat.sub_zero],Jw _,.inl ⟨rfl,fun _ h=>absurd h (Nat.not_lt_zero _)⟩⟩)
  ·rintro x rest b s' ⟨rfl,i,hit,rfl,hr,hi,hH⟩;obtain ⟨hix,hxn,hpx,hskip,hrest⟩:=filter_range'_cons _ _ _ _ _ hr.symm;have hlt:x < es.size:=by omega
   have hex:es[x]?=some es[x]:=Jp hlt;obtain ⟨k',bs,hkx,hk',hh,hr'⟩:=N.at' hex;have hrest':rest=(List.range' (x+1) (es.size - (x+1))).filter (fun i=>(es[i]?.map (·.hash))==some (cI w k)):=by rw [hrest];congr 2;omega
   rw [hex] at hpx ⊢;have hhx:=(show (es[x].hash==cI w k)=true by simpa using hpx);dsimp only;rw [Ip hhx];refine Ib (J0 ho hd (Ib (y7 hu hk hr' hky hk' _ _ _ _ (Ib (J0 ho hd ?_)))));rw [Im (by simp)];cases q:PyData.eqv k' k with
   | true =>
    have z:=(same hk').mp q;rw [z] at hkx;first | rw [Ip rfl] | skip
    have h0:hit=none:=by
     rcases hH with ⟨h0,_⟩ | ⟨j,_,hj,hjk⟩
     ·exact h0
     ·exact absurd (N.one hjk hkx) (by omega)
    subst h0;simp only [Option.isSome_none,Kr,Kk];first | refine Ib (Il ?_) | skip
    refine Ib (JK ?_);split
    ·exact Il (Il (hsome x hkx))
    ·exact Il ⟨rfl,x+1,some x,rfl,hrest',hlt,.inr ⟨x,rfl,Kg x,hkx⟩⟩
   | false =>
    rw [Im (by simp)];have z:k'≠k:=fun e=>by rw [(same hk').mpr e] at q;cases q
    have st:(hit=none/\∀ j:Nat,j < x+1->ks[j]?≠some k)\/∃ j,hit=some j/\j < x+1/\ks[j]?=some k:=by
     rcases hH with ⟨h0,hno⟩ | ⟨j,h0,hj,hjk⟩
     ·exact .inl ⟨h0,step hkx z (skip hno hskip)⟩
     ·exact .inr ⟨j,h0,by omega,hjk⟩
    refine Ib (JK ?_);first | rw [Im (by simp)] | skip
    first
     | exact Il ⟨rfl,x+1,hit,rfl,hrest',hlt,st⟩
     | exact Ib (Il (Il ⟨rfl,x+1,hit,rfl,hrest',hlt,st⟩))
  ·rintro b s' ⟨rfl,i,hit,rfl,hr,hi,hH⟩;rcases hH with ⟨rfl,hno⟩ | ⟨j,rfl,_,hj⟩
   ·exact Il (hnone (done i hi hno hr))
   ·exact Il (hsome j hj)
end
end L2
end
section
namespace L2
open PySem PySem.Spec PyProof.Rows
def kD:Key->PyData | .inl i=>.int i | .inr x=>.str x
def cvK (kv:Key×V):PyData×V×V:=(kD kv.1,kV kv.1,kv.2)
theorem AO {a b:Key} (h:kD a=kD b):a=b:=by
 cases a <;> cases b <;> simp [kD] at h <;> simp [h]
theorem zc (w:World) (k:Key):cI w (kD k)=GF w k:=by cases k <;> rfl
theorem o3 {P:Program} {w:World} {H:Hp} (h:Heap) (hb:sysModules < h.objs.size):bN P w H (h.push { cls:=.type "dict", data:=.dict #[] }) h.objs.size (.dD 0 []) :=
 ⟨Jw _,beq_eq_false_iff_ne.mpr (Ne.symm (Jf hb)),List.nodup_nil,_,#[],IX _ rfl,⟨rfl,rfl,rfl⟩,rfl,.nil⟩
theorem lO {P:Program} {w:World}:∀ {kvs:List (Key×V)} {vs:List (Key×Value)} {es:List DictEntry},KV kvs vs->Pairs (bO P w) es vs->(∀ e∈es,∃ k,(bO P w).is k e.key=true/\e.hash=(bO P w).hash k)->Paired (zr w) (kvs.map cvK) es
 | [],_,_,r,q,_=>by cases r;cases q;exact .nil
 | p :: kvs,_,es,r,q,h=>by
  cases r with
  | cons r t =>
   cases q with
   | @cons e kv es' kvs' h1 h2 h3 =>
    obtain ⟨k,hk,hh⟩:=h e Ik;have e1:k=p.1:=by rw [r.1];exact (bO P w).inj _ _ _ hk h1
    subst e1;refine .cons ⟨?_,?_,?_⟩ (lO t h3 fun e he=>h e (Io _ he))
    ·rw [hh];exact (zc w _).symm
    ·show RelV (kV p.1) e.key;rcases ba (show nI p.1 e.key=true from hk) with ⟨i,t,e1,e2⟩ | ⟨x,t,e1,e2⟩
     ·rw [e1,e2];exact ⟨t,rfl⟩
     ·rw [e1,e2];exact ⟨t,rfl⟩
    ·show RelV p.2 e.val;rw [h2];exact r.2
theorem Ge {P:Program} {w:World} {H:Hp} {h:Heap} {a:Addr} {kvs:List (Key×V)} {vs:List (Key×Value)} (z:kvs.length<=sizeLine) (hd:(a==sysModules)=false) (rel:KV kvs vs) (dd:h.DictOf (bO P w) a vs) :
  ∃ ep,bN P w H h a (.dD ep (kvs.map cvK)):=by
 obtain ⟨o,es,ep,h1,h2,h3,h4,h5,h6⟩:=dd;refine ⟨ep,by rw [Ig];exact z,hd,?_,o,es,h1,h2,h3,lO rel h5 fun e he=>h4 e (Array.mem_toList_iff.mp he)⟩;have e1:vs.map (·.1)=kvs.map (·.1):=by
  clear h5 h6 z;unfold KV at rel;induction rel with
  | nil=>rfl
  | cons r t ih=>rw [Jj,Jj,ih,r.1]
 rw [e1] at h6;rw [Kh];have:(kvs.map ((fun x:PyData×V×V=>x.1)∘cvK))=(kvs.map (·.1)).map kD:=by rw [Kh];rfl
 rw [this];exact List.Pairwise.map kD (fun _ _ n z=>n (AO z)) h6
def lN:TE:=fun _ H Q=>∀ p,H p=none->Q (.ref p) (upd H p (.dD 0 []))
def o4 (trs:List (TE×TE)):TE:=fun σ H Q=>∀ p,H p=none->pE trs σ (upd H p (.dD 0 [])) fun ps H2=>H2 p=some (.dD 0 [])/\∃ kvs:List (Key×V),ps=kvs.map (fun kv=>(kV kv.1,kv.2))/\kvs.length<=15/\∀ ep,Q (.ref p) (upd H2 p (.dD ep ((d4 [] kvs).map cvK)))
section
variable {X:Cx} {pos:Pos}
theorem wc:PE X (.Dict [] [] pos) lN:=fun pins s σ H Q I h =>
 wpAny_Dict_empty ⟨.ref s.heap.objs.size,_,I.laid (o:=.dD 0 []) (t':=s.toks) (fun _ _ q=>Iw _ q) (Iv _) (o3 s.heap I.big),rfl,h _ (I.hok.fresh (Iv _))⟩
theorem vN {keys:List (Option Expr)} {values:List Expr} {trs:List (TE×TE)} (h:PPs X pos keys values trs) (hall:keys.all (·.isSome)=true) (hl:keys.length=values.length) (h0:keys≠[])
  (h15:keys.length<=15):PE X (.Dict keys values pos) (o4 trs):=by
 intro pins s σ H Q I q;have hn:=I.hok.fresh (Iv s.heap.objs.size);have I1:=I.laid (o:=.dD 0 []) (h':=s.heap.push { cls:=.type "dict", data:=.dict #[] }) (t':=s.toks) (fun _ _ q=>Iw _ q) (Iv _) (o3 s.heap I.big);refine wpAny_Dict_walk (knd:=bO X.prog X.w) hall hl h0 h15 (thn (h pins _ σ _ _ I1 (q _ hn)) fun ws s2 ⟨ps,H2,I2,rel,e,kvs,ep,lk,q2⟩=>?_);subst ep;obtain ⟨rs,c,rk⟩:=kh (P:=X.prog) (w:=X.w) rel;obtain ⟨z,hd,nd,o,es,g1,g2,g3,g4⟩:=(show bN X.prog X.w H2 s2.heap s.heap.objs.size (.dD 0 []) from I2.hok _ _ e);have ees:es=#[]:=by
  cases es with
  | mk l=>cases g4;rfl
 subst ees;have dd:s2.heap.DictOf (bO X.prog X.w) s.heap.objs.size []:=⟨o,#[],0,g1,g2,g3,fun e he=>by simp at he,.nil,List.nodup_nil⟩;refine ⟨rs,c,dd,fun h' dd' hs=>?_⟩;have hz:(d4 [] kvs).length<=sizeLine:=by
  have h1:=fN kvs [];rw [JL] at h1;rw [JQ];omega
 have he:∃ q,h'.get? s.heap.objs.size=some q:=let ⟨q,_,_,hq,_⟩:=dd';⟨q,hq⟩
 obtain ⟨ep,new⟩:=Ge (H:=upd H2 s.heap.objs.size (.dD 0 [])) hz hd (rk.merge .nil) dd';exact ⟨.ref s.heap.objs.size,_,oF I2 (by rw [e];exact True.intro) hs he (ob:=.dD ep ((d4 [] kvs).map cvK)) new,rfl,q2 ep⟩
end
def uY (xs:List (PyData×V×V)) (k:PyData):Option V:=(xs.find? fun x=>PyData.eqv x.1 k).map (·.2.2)
def pH (xs:List (PyData×V×V)) (k:PyData) (j v:V):List (PyData×V×V) :=
 if (xs.any fun x=>PyData.eqv x.1 k)=true then xs.map (fun x=>if PyData.eqv x.1 k=true then (x.1,x.2.1,v) else x) else xs++[(k,j,v)]
def lC (h:Heap) (xs:List (PyData×V×V)):Prop:=∀ x∈xs,kyB x.1=true/\∀ u,RelV x.2.1 u->∃ bs,Reads h u x.1 bs
section
variable {X:Cx} {pins:List (Addr×Obj)} {σ:St} {H:Hp} {s:Shared} {a:Addr} {A:Around} {E:Value->Shared->Prop} {ep:Nat} {xs:List (PyData×V×V)} {k:PyData} {u:Value} {as:List Addr}
theorem gb {α β:Type} {R:α->β->Prop}:∀ {l:List α} {m:List β},Paired R l m->∀ (j:Nat) (x:α),l[j]?=some x->∃ y,m[j]?=some y/\R x y
 | _,_,.nil,j,x,e=>by simp at e
 | _,_,.cons r t,0,x,e=>by simp at e;subst e;exact ⟨_,rfl,r⟩
 | _,_,.cons r t,j+1,x,e=>by simpa using gb t j x (by simpa using e)
theorem ud {P:Program} {w:World} {h:Heap} {es:Array DictEntry} (kr:lC h xs) (nd:(xs.map (·.1)).Nodup) (r:Paired (zr w) xs es.toList):zR w h es (xs.map (·.1)) where
 len:=by rw [Ig,Paired.length r];simp
 nd:=nd
 at_:=fun j k e=>by
  rw [IJ] at e;obtain ⟨x,hx,rfl⟩:=Je.mp e;obtain ⟨en,h1,h2,h3,h4⟩:=gb r j x hx;obtain ⟨k1,k2⟩:=kr x (IM hx);obtain ⟨bs,r1⟩:=k2 _ h3;exact ⟨k1,en,bs,by simpa using h1,h2,r1⟩
theorem rJ {j:Nat} (kr:lC s.heap xs) (nd:(xs.map (·.1)).Nodup) (ky:kyB k=true) (hj:(xs.map (·.1))[j]?=some k):∃ x,xs[j]?=some x/\x.1=k/\xs.find? (fun x=>PyData.eqv x.1 k)=some x:=by
 rw [IJ] at hj;obtain ⟨x,hx,rfl⟩:=Je.mp hj;refine ⟨x,hx,rfl,?_⟩;rw [List.find?_eq_some_iff_getElem];obtain ⟨hl,e⟩:=Ie.mp hx;refine ⟨(iB _ _ (aV.mp ky).1 (aV.mp ky).1).mpr rfl,j,hl,e,fun i hi=>?_⟩;have hil:i < xs.length:=by omega
 cases q:PyData.eqv xs[i].1 x.1 with
 | false=>rfl
 | true =>
  have z:=(iB _ _ (aV.mp (kr _ (List.getElem_mem hil)).1).1 (aV.mp ky).1).mp q;have e1:(xs.map (·.1))[i]?=some x.1:=by rw [IJ,Ia hil,K2,z]
  have e2:(xs.map (·.1))[j]?=some x.1:=by rw [IJ,hx];rfl
  have:=(List.getElem?_inj (by rw [Ig];exact hil) nd).mp (e1.trans e2.symm);omega
theorem uH (kr:lC s.heap xs) (ky:kyB k=true) (h:∀ j:Nat,(xs.map (·.1))[j]?≠some k):xs.find? (fun x=>PyData.eqv x.1 k)=none:=by
 rw [List.find?_eq_none];intro x hx q;have z:=(iB _ _ (aV.mp (kr x hx).1).1 (aV.mp ky).1).mp q;obtain ⟨j,hj⟩:=Ka.mp hx;exact h j (by rw [IJ,hj,K2,z])
theorem FD {Q:Option Value->Shared->Prop} (hu:A.units+6 < cLine) (I:Inv X pins σ H s) (e:H a=some (.dD ep xs)) (kr:lC s.heap xs) (hk:Reads s.heap u k as) (ky:kyB k=true)
  (q:∀ t ov,DO (uY xs k) ov->Q ov { s with toks:=t }):wpAny (model X.prog X.w) A (dictGet a u) Q E s:=by
 obtain ⟨z,hd,nd,o,es,g1,g2,g3,g4⟩:=(show bN X.prog X.w H s.heap a (.dD ep xs) from I.hok _ _ e);unfold dictGet;refine J2 (Ib (xi 6 hk (aV.mp ky).1 (aV.mp ky).2.2 hu fun t=>?_));refine Ib (xb (s:={ s with toks:=t }) hu hk ky g1 g3 (ud (P:=X.prog) kr nd g4) (fun hno=>?_) fun j hj=>?_)
 ·refine Il (q _ _ ?_);unfold uY;rw [uH (s:=s) kr ky hno];exact True.intro
 ·obtain ⟨x,hx,e1,e2⟩:=rJ (s:=s) kr nd ky hj;obtain ⟨en,h1,h2,h3,h4⟩:=gb g4 j x hx;refine Ib (KL (s:={ s with toks:=t }) g1 g3 (Il (q _ _ ?_)));unfold uY;rw [e2,show es[j]?=some en by simpa using h1];exact h4
theorem n4 (I:Inv X pins σ H s) (e:H a=some (.dD ep xs)):s.TypeIs (.ref a) "dict" /\ (a==sysModules)=false:=by
 obtain ⟨z,hd,nd,o,es,g1,g2,g3,g4⟩:=(show bN X.prog X.w H s.heap a (.dD ep xs) from I.hok _ _ e);exact ⟨⟨o,g1,g2.1⟩,hd⟩
theorem A3 {v:V} {Q:Value->Shared->Prop} (hu:A.units+7 < cLine) (I:Inv X pins σ H s) (e:H a=some (.dD ep xs)) (kr:lC s.heap xs) (hk:Reads s.heap u k as) (ky:kyB k=true) (hv:uY xs k=some v)
  (q:∀ t w',RelV v w'->Q w' { s with toks:=t }):wpAny (model X.prog X.w) A (getItem (.ref a) u) Q E s:=by
 obtain ⟨T,_⟩:=n4 I e;unfold getItem;refine J2 (Ib (wpAny_sequenceKey T (by decide) (Ib (Ks (name:=Str.ofString "__getitem__") T slot_dict_getitem (Kf slot_dict_getitem T entry_dict_getitem ?_ (args_dict_getitem _ _))))));refine Ib (m:=dictGet a u) (FD (by have:A.in1.units=A.units+1:=rfl;omega) I e kr hk ky fun t ov r=>?_);rw [hv] at r;cases ov with
 | none=>cases r
 | some w'=>exact Il ⟨w',rfl,Il (q t w' r)⟩
theorem pR {j v:V}:(pH xs k j v).length<=xs.length+1:=by
 unfold pH;split
 ·rw [Ig];omega
 ·rw [Ic];exact Iv _
theorem pj {j v:V} (h:xs.find? (fun x=>PyData.eqv x.1 k)=none):pH xs k j v=xs++[(k,j,v)]:=by
 unfold pH;rw [Im];rw [KZ];rintro ⟨x,hx,q⟩;exact absurd q (by simpa using List.find?_eq_none.mp h x hx)
theorem pA {j v:V} {x:PyData×V×V} (h:xs.find? (fun x=>PyData.eqv x.1 k)=some x):pH xs k j v=xs.map (fun x=>if PyData.eqv x.1 k=true then (x.1,x.2.1,v) else x):=by
 unfold pH;rw [Ip];rw [KZ];exact ⟨x,List.mem_of_find?_eq_some h,by simpa using List.find?_some h⟩
theorem rQ {w:World} {h:Heap} {v:V} {r:Value} (ky:kyB k=true) (rv:RelV v r):∀ {xs:List (PyData×V×V)} {es:List DictEntry} {i:Nat},lC h xs->(xs.map (·.1)).Nodup->(xs.map (·.1))[i]?=some k->Paired (zr w) xs es ->
  Paired (zr w) (xs.map (fun x=>if PyData.eqv x.1 k=true then (x.1,x.2.1,v) else x)) (es.modify i fun e=>{ e with val:=r })
 | [],es,i,_,_,hi,_=>by simp at hi
 | x :: xs,es,i,kr,nd,hi,p=>by
  cases p with
  | @cons _ e _ es' h1 h2 =>
   have ky':=(kr x Ik).1;rw [Jj,Jt] at nd;have off:∀ {ys:List (PyData×V×V)} {fs:List DictEntry},k ∉ ys.map (·.1)->lC h ys->Paired (zr w) ys fs->Paired (zr w) (ys.map (fun x=>if PyData.eqv x.1 k=true then (x.1,x.2.1,v) else x)) fs:=by
    intro ys fs hn kr' q;have:(ys.map (fun x=>if PyData.eqv x.1 k=true then (x.1,x.2.1,v) else x))=ys:=by
     refine (List.map_congr_left fun y hy=>?_).trans (List.map_id _);rw [Im]
     ·rfl
     ·intro z;exact hn (Jn.mpr ⟨y,hy,(iB _ _ (aV.mp (kr' y hy).1).1 (aV.mp ky).1).mp z⟩)
    rw [this];exact q
   cases i with
   | zero =>
    simp at hi;subst hi;rw [Jj,Ip ((iB _ _ (aV.mp ky).1 (aV.mp ky).1).mpr rfl)];exact .cons ⟨h1.1,h1.2.1,rv⟩ (off nd.1 (fun y hy=>kr y (Io _ hy)) h2)
   | succ i =>
    have hi':(xs.map (·.1))[i]?=some k:=by simpa using hi
    have ne:x.1≠k:=fun z=>nd.1 (by rw [z];exact IM hi');rw [Jj,Im fun z=>ne ((iB _ _ (aV.mp ky').1 (aV.mp ky).1).mp z)];exact .cons h1 (rQ ky rv (fun y hy=>kr y (Io _ hy)) nd.2 hi' h2)
theorem FC {j v:V} {r:Value} {Q:Unit->Shared->Prop} (hu:A.units+7 < cLine) (I:Inv X pins σ H s) (e:H a=some (.dD ep xs)) (kr:lC s.heap xs) (hk:Reads s.heap u k as) (ky:kyB k=true) (rj:RelV j u) (rv:RelV v r) (hl:xs.length < sizeLine)
  (q:∀ ep' s',Inv X pins σ (upd H a (.dD ep' (pH xs k j v))) s'->Q () s'):wpAny (model X.prog X.w) A (setItem (.ref a) u r) Q E s:=by
 obtain ⟨T,hd⟩:=n4 I e;obtain ⟨z,_,nd,o,es,g1,g2,g3,g4⟩:=(show bN X.prog X.w H s.heap a (.dD ep xs) from I.hok _ _ e);have hsz:es.size=xs.length:=by rw [Paired.length g4];simp
 unfold setItem;refine J2 (Ib (wpAny_sequenceKey T (by decide) (Ib (Ks (name:=Str.ofString "__setitem__") T slot_dict_setitem (Kf slot_dict_setitem T entry_dict_setitem ?_ (args_dict_setitem _ _ _))))));refine Ib (m:=Builtin.Dict.notOrdered "__setitem__" ⟨[.ref a,u,r],[]⟩) (wpAny_notOrdered_dict T ?_);refine Ib (m:=dictSet a u r) ?_;unfold dictSet dictSetHashed;refine J2 (Ib (xi 6 hk (aV.mp ky).1 (aV.mp ky).2.2 (by have:A.in1.units=A.units+1:=rfl;omega) fun t=>J2 ?_));have hl':(pH xs k j v).length<=sizeLine:=by have:=pR (xs:=xs) (k:=k) (j:=j) (v:=v);omega
 refine Ib (xb (s:={ s with toks:=t }) (by have:A.in1.units=A.units+1:=rfl;omega) hk ky g1 g3 (ud (P:=X.prog) kr nd g4) (fun hno=>?_) fun i hi=>?_)
 ·have fn:=uH (s:=s) kr ky hno;refine Ib (JK (wpAny_updateDictKeys (s:={ s with toks:=t }) (hz:=by omega) g1 g3 (Il ⟨.none,rfl,Il (q (ep+1) _ (oF (t':=t) (I.tok t) (by rw [e];exact True.intro) (Heap.SameBut.update ..) ⟨_,Kv _ g1 (Obj.isFreed_of_dict (Obj.data_mapDictKeys g3 _))⟩ ?_))⟩)));refine ⟨hl',hd,?_,_,_,Kv _ g1 (Obj.isFreed_of_dict (Obj.data_mapDictKeys g3 _)),g2.mapDictKeys _,Obj.data_mapDictKeys g3 _,?_⟩
  ·rw [pj fn,Jl,Jg];refine ⟨nd,by simp,fun y hy z hz=>?_⟩;simp only [Jj,List.map_nil,Iq] at hz;subst hz;rintro rfl;obtain ⟨i,hi⟩:=Ka.mp hy;exact hno i hi
  ·rw [pj fn,Array.toList_push];exact Paired.snoc g4 ⟨rfl,rj,rv⟩
 ·obtain ⟨x,hx,e1,e2⟩:=rJ (s:=s) kr nd ky hi;refine Ib (JK (Ib (wpAny_updateDict (s:={ s with toks:=t }) g1 g3 (wpAny_point (Il ⟨.none,rfl,Il (q ep _ (oF (t':=t) (I.tok t) (by rw [e];exact True.intro) (Heap.SameBut.update ..) ⟨_,Kv _ g1 (Obj.isFreed_of_dict (Obj.data_mapDict g3 _))⟩ ?_))⟩)))));refine ⟨hl',hd,?_,_,_,Kv _ g1 (Obj.isFreed_of_dict (Obj.data_mapDict g3 _)),g2.mapDict _,Obj.data_mapDict g3 _,?_⟩
  ·rw [pA e2,Kh];have:(xs.map ((fun x:PyData×V×V=>x.1)∘fun y=>if PyData.eqv y.1 k=true then (y.1,y.2.1,v) else y))=xs.map (·.1):=List.map_congr_left fun y _=>by
    show (if PyData.eqv y.1 k=true then (y.1,y.2.1,v) else y).1=y.1;split <;> rfl
   rw [this];exact nd
  ·rw [pA e2,Array.toList_modify];exact rQ ky rv kr nd hi g4
end
end L2
end
section
namespace L2
open PySem PySem.Spec PyProof.Rows
section
variable {P:Program} {w:World} {A:Around} {E:Value->Shared->Prop} {s:Shared} {it d:Addr} {o od:Obj} {es:Array DictEntry} {i ep:Nat}
theorem CF {Q:Value->Shared->Prop} (hd:(d==sysModules)=false) (g1:s.heap.get? d=some od) (g2:od.ExactDict) (g3:od.data=.dict es ep)
  (q:Q (.ref s.heap.objs.size) { s with heap:=s.heap.push { cls:=.type "dict_keyiterator", data:=.fields #[.ref d,.int 0 0,.int es.size 0,.int ep 0] } }):wpAny (model P w) A (pyIter (.ref d)) Q E s:=by
 have T:s.TypeIs (.ref d) "dict" := ⟨od,g1,g2.1⟩;refine wpAny_pyIter_slot T F.slot_dict_iter (Kf F.slot_dict_iter T F.entry_dict_iter ?_ (F.args_dict_iter_1 _));unfold Builtin.«dict.__iter__» Builtin.Dict.dictSlotNone
 refine Ib (Ib (wpAny_notOrdered_dict T ?_));show wpAny _ _ (pure (Value.ref d):Sem Value) _ _ s;refine Il ?_;show wpAny _ _ (Builtin.Dict.showsAll d>>=_) _ _ s;unfold Builtin.Dict.showsAll;rw [Im (by rw [hd];exact IE)];refine Ib (Il (Ib (KL g1 g3 (Ib (J0 g1 g3 ?_)))));exact Ib (JJ (Il ⟨_,rfl, "dict_keyiterator", _,⟨_,IX _ rfl,rfl⟩,Kz.lookup,q⟩))
theorem z4 {Q:Option Value->Shared->Prop} (hit:s.heap.IsKeyIter it d i es.size ep) (g1:s.heap.get? d=some od) (g3:od.data=.dict es ep) {e:DictEntry} (he:es[i]?=some e)
  (q:∀ h',h'.IsKeyIter it d (i+1) es.size ep->Heap.SameBut it s.heap h'->Q (some e.key) { s with heap:=h' }):wpAny (model P w) A (pyNext (.ref it)) Q E s:=by
 obtain ⟨ob,ho,hc,hd⟩:=id hit;have T:=hit.typeIs;unfold pyNext;refine Ib (wpAny_attempt (Ks (name:=Str.ofString "__next__") T Kz (Kf Kz T F.entry_dict_keyiterator_next ?_ (F.args_dict_keyiterator_next_1 _))));refine Ib (Il (Ib (Ib ?_)));first | refine Ib (Kx T (Il (Ib (wpAny_fieldsOf ho hd ?_)))) | refine Ib (KQ T (Il (Ib (wpAny_fieldsOf ho hd ?_))))
 simp only [show Builtin.Dict_items.ownsTuple "dict_keyiterator" = false by decide,Kr,Kk];show wpAny _ _ (if (Value.ref d==Value.none)=true then _ else _) _ _ s;rw [Im (show ¬((Value.ref d==Value.none)=true) from IE)];refine Ib (Il (Ib (KL g1 g3 ?_)));rw [Im (by simp)];refine Ib (Il (Ib (J0 g1 g3 ?_)));rw [Im (by simp)];refine Il ?_;simp only [show ¬((i:Int) < 0) from by omega,Kk,Int.toNat_natCast,he];refine Ib ?_;first | refine Ib (Kx T (Il (Ib (wpAny_isOneOf_keyiter T ?_)))) | refine Ib (KQ T (Il (Ib (wpAny_isOneOf_keyiter T ?_))))
 show wpAny _ _ (setField (.ref it) 1 (rawInt ((i:Int)+1))>>=_) _ _ s;have hit':(s.heap.update it (Obj.mapFields (·.setIfInBounds 1 (rawInt ((i:Int)+1))))).IsKeyIter it d (i+1) es.size ep :=
  ⟨_,Kv _ ho (Obj.isFreed_of_fields (Obj.data_mapFields hd _)),(Obj.cls_mapFields ..).trans hc,by rw [Obj.data_mapFields hd];simp [rawInt]⟩
 refine Ib (wpAny_setField ho hd (by simp) (Ib (J2 ?_)));refine Ib (wpAny_isOneOf_keyiter (s:={ s with heap:=s.heap.update it (Obj.mapFields (·.setIfInBounds 1 (rawInt ((i:Int)+1)))) }) hit'.typeIs ?_);show wpAny _ _ (pure e.key:Sem Value) _ _ _;exact Il (Il ⟨_,rfl,Il (q _ hit' (Heap.SameBut.update ..))⟩)
theorem Fl {Q:Option Value->Shared->Prop} (hh:A.handled=none) (hit:s.heap.IsKeyIter it d i es.size ep) (g1:s.heap.get? d=some od) (g3:od.data=.dict es ep) (he:es.size<=i)
  (q:∀ h',Heap.ExtBut it s.heap h'->Q none { s with heap:=h' }):wpAny (model P w) A (pyNext (.ref it)) Q E s:=by
 obtain ⟨ob,ho,hc,hd⟩:=id hit;have T:=hit.typeIs;unfold pyNext;refine Ib (wpAny_attempt (Ks (name:=Str.ofString "__next__") T Kz (Kf Kz T F.entry_dict_keyiterator_next ?_ (F.args_dict_keyiterator_next_1 _))));refine Ib (Il (Ib (Ib ?_)));first | refine Ib (Kx T (Il (Ib (wpAny_fieldsOf ho hd ?_)))) | refine Ib (KQ T (Il (Ib (wpAny_fieldsOf ho hd ?_))))
 simp only [show Builtin.Dict_items.ownsTuple "dict_keyiterator" = false by decide,Kr,Kk];show wpAny _ _ (if (Value.ref d==Value.none)=true then _ else _) _ _ s;rw [Im (show ¬((Value.ref d==Value.none)=true) from IE)];refine Ib (Il (Ib (KL g1 g3 ?_)));rw [Im (by simp)];refine Ib (Il (Ib (J0 g1 g3 ?_)));rw [Im (by simp)];refine Il ?_;simp only [show ¬((i:Int) < 0) from by omega,Kk,Int.toNat_natCast,Array.getElem?_eq_none he];refine Ib ?_;first | refine Ib (Kx T (Il ?_)) | refine Ib (KQ T (Il ?_))
 show wpAny _ _ (setField (.ref it) 0 .none>>=_) _ _ s;refine Ib (wpAny_setField ho hd (by simp) ?_);show wpAny _ _ (newExc (.type "StopIteration") []>>=_) _ _ _;refine Ib ?_;simp only [newExc,newTuple];refine Ib (JJ (Ib (m:=firstArgMember _ _) (wpAny_of_eq (a:=Value.none) (by first | rfl | (simp only [firstArgMember];rfl)) (JJ ?_ (by size_fits)))) (by size_fits));simp only [raiseNew];refine Ib (wpAny_handled ?_);rw [show A.in1.handled=none from hh];refine Ib (Il (wpAny_throw ?_));refine Ib (wpAny_isInstance (b:=true) (T := "StopIteration") ⟨_,IX _ rfl,rfl⟩ isSubtype_stop ?_);exact Il (q _ (((Heap.SameBut.update ..).extBut.push _).push _))
end
def Itd (a:Addr) (ep:Nat) (xs:List (PyData×V×V)):It :=
 ⟨fun i H=>H a=some (.dD ep xs)/\i < xs.length,fun i H x H'=>H'=H/\(xs[i]?).map (·.2.1)=some x,fun i H=>H a=some (.dD ep xs)/\xs.length<=i⟩
def Ht (tl:TE):TI:=fun σ H R=>tl σ H fun x H1=>∃ a ep xs,x=.ref a/\H1 a=some (.dD ep xs)/\R (Itd a ep xs) H1
end L2
end
section
namespace L2
open PySem PySem.Spec PyProof.Rows
section
variable {X:Cx} {pins:List (Addr×Obj)} {σ:List (Option V)} {H:Hp} {s:Shared} {h':Heap}
end
def Itz (K:Fg) (a b:Addr) (xs ys:List V):It :=
 ⟨fun i H=>SqL K H a xs/\SqL K H b ys/\i < xs.length/\i < ys.length,fun i H x H'=>∃ p u v,H p=none/\x=.ref p/\xs[i]?=some u/\ys[i]?=some v/\H'=upd H p (.tup [u,v]),fun i H=>SqL K H a xs/\SqL K H b ys/\(xs.length<=i\/ys.length<=i)⟩
def HN (K:Fg) (t:TA):TI:=fun σ H R=>t σ H fun vs H1=>∃ a b xs ys,vs=[.ref a,.ref b]/\SqL K H1 a xs/\SqL K H1 b ys/\R (Itz K a b xs ys) H1
end L2
end
section
namespace L2
open PySem
def HQ (K:Fg) (a:Addr) (xs:List V):Prop:=∃ (o:Obj) (its:Array Value) (n:Nat),K.lookup a=some o/\o.cls=.type "list" /\ o.dict=none/\o.data=.seq its n/\its.size<=sizeLine/\Vals xs its.toList
def LsF (K:Fg) (F:Addr->Prop) (H:Hp) (a:Addr) (xs:List V):Prop:=(¬F a/\Rd H a (.lst xs))\/HQ K a xs
mutual
def Dm (K:Fg) (F:Addr->Prop) (H:Hp):PyData->V->Prop
 | .none,v=>v=.non
 | .bool b,v=>v=.bl b
 | .int i,v=>v=.int i
 | .str x,v=>v=.str x/\x.length<=sizeLine/\PyData.strOk x=true
 | .list ds,v=>∃ a xs,v=.ref a/\LsF K F H a xs/\xs.length<=sizeLine/\DmL K F H ds xs
 | .tuple ds,v=>∃ a xs,v=.ref a/\SqT K H a xs/\xs.length<=sizeLine/\DmL K F H ds xs
 | .dict kvs,v=>∃ a ep xs,v=.ref a/\¬F a/\H a=some (.dD ep xs)/\xs.length<=sizeLine/\DmP K F H kvs xs
def DmL (K:Fg) (F:Addr->Prop) (H:Hp):List PyData->List V->Prop
 | [],vs=>vs=[]
 | d :: ds,vs=>∃ v r,vs=v :: r/\Dm K F H d v/\DmL K F H ds r
def DmP (K:Fg) (F:Addr->Prop) (H:Hp):List (PyData×PyData)->List (PyData×V×V)->Prop
 | [],vs=>vs=[]
 | (k,d) :: ds,vs=>∃ j v r,vs=(k,j,v) :: r/\hk6 k=true/\Dm K F H k j/\Dm K F H d v/\DmP K F H ds r
end
def Wr:HO->Bool | .lst _=>true | .dD _ _=>true | _=>false
def Pr (F:Addr->Prop) (H H':Hp):Prop:=∀ b o,H b=some o->(¬F b\/Wr o=false)->H' b=some o
section
variable {K:PySem.W.Frag} {F F':Addr->Prop} {H H':Hp}
theorem SqT.pr {a:Addr} {xs:List V} (p:Pr F H H') (h:SqT K H a xs):SqT K H' a xs:=by
 rcases h with (h | ⟨o,h⟩) | h
 ·exact .inl (.inl (p _ _ h (.inr rfl)))
 ·exact .inl (.inr ⟨o,p _ _ h (.inr rfl)⟩)
 ·exact .inr h
theorem LsF.pr {a:Addr} {xs:List V} (p:Pr F H H') (hf:∀ b,F' b->F b) (h:LsF K F H a xs):LsF K F' H' a xs:=by
 rcases h with ⟨n,h | ⟨o,h⟩⟩ | h
 ·exact .inl ⟨fun z=>n (hf _ z),.inl (p _ _ h (.inl n))⟩
 ·exact .inl ⟨fun z=>n (hf _ z),.inr ⟨o,p _ _ h (.inl n)⟩⟩
 ·exact .inr h
mutual
theorem Dm.pr (p:Pr F H H') (hf:∀ b,F' b->F b):∀ {d:PyData} {v:V},Dm K F H d v->Dm K F' H' d v
 | .none,v,h=>h
 | .bool b,v,h=>h
 | .int i,v,h=>h
 | .str x,v,h=>h
 | .list ds,v,h=>by
  obtain ⟨a,xs,e,l,z,r⟩:=h;exact ⟨a,xs,e,l.pr p hf,z,DmL.pr p hf r⟩
 | .tuple ds,v,h=>by
  obtain ⟨a,xs,e,l,z,r⟩:=h;exact ⟨a,xs,e,l.pr p,z,DmL.pr p hf r⟩
 | .dict kvs,v,h=>by
  obtain ⟨a,ep,xs,e,n,l,z,r⟩:=h;exact ⟨a,ep,xs,e,fun q=>n (hf _ q),p _ _ l (.inl n),z,DmP.pr p hf r⟩
theorem DmL.pr (p:Pr F H H') (hf:∀ b,F' b->F b):∀ {ds:List PyData} {vs:List V},DmL K F H ds vs->DmL K F' H' ds vs
 | [],vs,h=>h
 | d :: ds,vs,h=>by
  obtain ⟨v,r,e,h1,h2⟩:=h;exact ⟨v,r,e,Dm.pr p hf h1,DmL.pr p hf h2⟩
theorem DmP.pr (p:Pr F H H') (hf:∀ b,F' b->F b):∀ {ds:List (PyData×PyData)} {vs:List (PyData×V×V)},DmP K F H ds vs->DmP K F' H' ds vs
 | [],vs,h=>h
 | (k,d) :: ds,vs,h=>by
  obtain ⟨j,v,r,e,e2,h0,h1,h2⟩:=h;exact ⟨j,v,r,e,e2,Dm.pr p hf h0,Dm.pr p hf h1,DmP.pr p hf h2⟩
end
theorem LsF.fresh {a c:Addr} {xs:List V} (hc:H c=none) (h:LsF K F H a xs):LsF K (fun b=>F b\/b=c) H a xs:=by
 rcases h with ⟨n,h⟩ | h
 ·refine .inl ⟨fun z=>z.elim n fun e=>?_,h⟩;subst e;rcases h with h | ⟨o,h⟩ <;> (rw [hc] at h;cases h)
 ·exact .inr h
mutual
theorem Dm.fresh {c:Addr} (hc:H c=none):∀ {d:PyData} {v:V},Dm K F H d v->Dm K (fun b=>F b\/b=c) H d v
 | .none,v,h=>h
 | .bool b,v,h=>h
 | .int i,v,h=>h
 | .str x,v,h=>h
 | .list ds,v,h=>by
  obtain ⟨a,xs,e,l,z,r⟩:=h;exact ⟨a,xs,e,l.fresh hc,z,DmL.fresh hc r⟩
 | .tuple ds,v,h=>by
  obtain ⟨a,xs,e,l,z,r⟩:=h;exact ⟨a,xs,e,l,z,DmL.fresh hc r⟩
 | .dict kvs,v,h=>by
  obtain ⟨a,ep,xs,e,n,l,z,r⟩:=h;exact ⟨a,ep,xs,e,fun q=>q.elim n fun q=>(by subst q;rw [hc] at l;cases l),l,z,DmP.fresh hc r⟩
theorem DmL.fresh {c:Addr} (hc:H c=none):∀ {ds:List PyData} {vs:List V},DmL K F H ds vs->DmL K (fun b=>F b\/b=c) H ds vs
 | [],vs,h=>h
 | d :: ds,vs,h=>by
  obtain ⟨v,r,e,h1,h2⟩:=h;exact ⟨v,r,e,Dm.fresh hc h1,DmL.fresh hc h2⟩
theorem DmP.fresh {c:Addr} (hc:H c=none):∀ {ds:List (PyData×PyData)} {vs:List (PyData×V×V)},DmP K F H ds vs->DmP K (fun b=>F b\/b=c) H ds vs
 | [],vs,h=>h
 | (k,d) :: ds,vs,h=>by
  obtain ⟨j,v,r,e,e2,h0,h1,h2⟩:=h;exact ⟨j,v,r,e,e2,Dm.fresh hc h0,Dm.fresh hc h1,DmP.fresh hc h2⟩
end
theorem Pr.refl:Pr F H H:=fun _ _ h _=>h
theorem Pr.trans {H1 H2:Hp} (a:Pr F H H1) (b:Pr F' H1 H2) (hf:∀ b,F' b->F b):Pr F H H2:=fun c o h n=>b c o (a c o h n) (n.imp (fun z q=>z (hf _ q)) id)
theorem Pr.of_same (a:aY H H'):Pr F H H':=fun c o h _=>a c o h
theorem Dm.mono (hf:∀ b,F' b->F b) {d:PyData} {v:V} (h:Dm K F H d v):Dm K F' H d v:=h.pr Pr.refl hf
theorem DmL.mono (hf:∀ b,F' b->F b) {d:List PyData} {v:List V} (h:DmL K F H d v):DmL K F' H d v:=h.pr Pr.refl hf
theorem DmL.len:∀ {ds:List PyData} {vs:List V},DmL K F H ds vs->vs.length=ds.length
 | [],vs,h=>by rw [show vs=[] from h];rfl
 | d :: ds,vs,h=>by
  obtain ⟨v,r,e,h1,h2⟩:=h;rw [e,IH,IH,DmL.len h2]
theorem DmL.get:∀ {ds:List PyData} {vs:List V} {i:Nat} {d:PyData},DmL K F H ds vs->ds[i]?=some d->∃ v,vs[i]?=some v/\Dm K F H d v
 | [],vs,_,_,h,e=>by simp at e
 | d :: ds,vs,0,d',h,e=>by
  obtain ⟨v,r,e1,h1,h2⟩:=h;simp at e;subst e;subst e1;exact ⟨v,rfl,h1⟩
 | d :: ds,vs,i+1,d',h,e=>by
  obtain ⟨v,r,e1,h1,h2⟩:=h;subst e1;obtain ⟨w,q1,q2⟩:=DmL.get (i:=i) h2 (by simpa using e);exact ⟨w,by simpa using q1,q2⟩
theorem DmL.get' {ds:List PyData} {vs:List V} {i:Nat} {v:V} (h:DmL K F H ds vs) (e:vs[i]?=some v):∃ d,ds[i]?=some d/\Dm K F H d v:=by
 have hl:=h.len;have hi:i < vs.length:=(Ie.mp e).1;have hd:ds[i]?=some (ds[i]'(by omega)):=Ia _;obtain ⟨w,e2,q⟩:=h.get hd;rw [e] at e2;cases e2;exact ⟨_,hd,q⟩
theorem DmL.app:∀ {ds es:List PyData} {vs ws:List V},DmL K F H ds vs->DmL K F H es ws->DmL K F H (ds++es) (vs++ws)
 | [],es,vs,ws,h,q=>by rw [show vs=[] from h];exact q
 | d :: ds,es,vs,ws,h,q=>by
  obtain ⟨v,r,e,h1,h2⟩:=h;subst e;exact ⟨v,r++ws,rfl,h1,DmL.app h2 q⟩
theorem DmL.snoc {ds:List PyData} {vs:List V} {d:PyData} {v:V} (h:DmL K F H ds vs) (q:Dm K F H d v):DmL K F H (ds++[d]) (vs++[v]):=h.app ⟨v,[],rfl,q,rfl⟩
def Top (K:PySem.W.Frag) (F:Addr->Prop) (H:Hp):PyData->Addr->Prop
 | .list ds,a=>∃ xs,H a=some (.lst xs)/\xs.length<=sizeLine/\DmL K F H ds xs
 | .dict kvs,a=>∃ ep xs,H a=some (.dD ep xs)/\xs.length<=sizeLine/\DmP K F H kvs xs
 | _,_=>False
def rK (K:PySem.W.Frag) (F:Addr->Prop) (H:Hp):PyData->Addr->Prop
 | .list ds,a=>∃ xs,SqL K H a xs/\xs.length<=sizeLine/\DmL K F H ds xs
 | .dict kvs,a=>∃ ep xs,H a=some (.dD ep xs)/\xs.length<=sizeLine/\DmP K F H kvs xs
 | _,_=>False
def Vw (K:PySem.W.Frag) (F:Addr->Prop) (H:Hp):PyData->V->Prop
 | .list ds,v=>∃ a,v=.ref a/\rK K F H (.list ds) a
 | .dict ds,v=>∃ a,v=.ref a/\rK K F H (.dict ds) a
 | d,v=>Dm K F H d v
theorem Top.r {d:PyData} {a:Addr} (h:Top K F H d a):rK K F H d a:=by
 cases d with
 | list ds=>obtain ⟨xs,e,z,r⟩:=h;exact ⟨xs,.inl (.inl e),z,r⟩
 | dict ds=>exact h
 | _=>exact h
theorem rK.vw {d:PyData} {a:Addr} (h:rK K F H d a):Vw K F H d (.ref a):=by
 cases d with
 | list ds=>exact ⟨a,rfl,h⟩
 | dict ds=>exact ⟨a,rfl,h⟩
 | _=>exact absurd h id
theorem Dm.vw {d:PyData} {v:V} (h:Dm K F H d v):Vw K F H d v:=by
 cases d with
 | list ds =>
  obtain ⟨a,xs,e,l,z,r⟩:=h;refine ⟨a,e,xs,?_,z,r⟩;rcases l with ⟨n,l⟩ | l
  ·exact .inl l
  ·exact .inr l
 | dict ds=>obtain ⟨a,ep,xs,e,n,l,z,r⟩:=h;exact ⟨a,e,ep,xs,l,z,r⟩
 | _=>exact h
theorem Top.dm {d:PyData} {a:Addr} (h:Top K F H d a) (n:¬F a):Dm K F H d (.ref a):=by
 cases d with
 | list ds=>obtain ⟨xs,e,z,r⟩:=h;exact ⟨a,xs,rfl,.inl ⟨n,.inl e⟩,z,r⟩
 | dict ds=>obtain ⟨ep,xs,e,z,r⟩:=h;exact ⟨a,ep,xs,rfl,n,e,z,r⟩
 | _=>exact absurd h id
theorem Top.wr {d:PyData} {a:Addr} (h:Top K F H d a):∃ o,H a=some o/\Wr o=true:=by
 cases d with
 | list ds=>obtain ⟨xs,e,_⟩:=h;exact ⟨_,e,rfl⟩
 | dict ds=>obtain ⟨ep,xs,e,_⟩:=h;exact ⟨_,e,rfl⟩
 | _=>exact absurd h id
theorem Top.pr {d:PyData} {a:Addr} (h:Top K F H d a) (p:Pr F H H') (hf:∀ b,F' b->F b) (ha:∀ o,H a=some o->H' a=some o):Top K F' H' d a:=by
 cases d with
 | list ds=>obtain ⟨xs,e,z,r⟩:=h;exact ⟨xs,ha _ e,z,r.pr p hf⟩
 | dict ds=>obtain ⟨ep,xs,e,z,r⟩:=h;exact ⟨ep,xs,ha _ e,z,r.pr p hf⟩
 | _=>exact absurd h id
theorem rK.pr {d:PyData} {a:Addr} (h:rK K F H d a) (p:Pr F H H') (hf:∀ b,F' b->F b) (ha:∀ o,H a=some o->H' a=some o):rK K F' H' d a:=by
 cases d with
 | list ds =>
  obtain ⟨xs,e,z,r⟩:=h;refine ⟨xs,?_,z,r.pr p hf⟩;rcases e with (e | ⟨o,e⟩) | e
  ·exact .inl (.inl (ha _ e))
  ·exact .inl (.inr ⟨o,ha _ e⟩)
  ·exact .inr e
 | dict ds=>obtain ⟨ep,xs,e,z,r⟩:=h;exact ⟨ep,xs,ha _ e,z,r.pr p hf⟩
 | _=>exact absurd h id
theorem Top.fresh {d:PyData} {a c:Addr} (hc:H c=none) (h:Top K F H d a):Top K (fun b=>F b\/b=c) H d a:=by
 cases d with
 | list ds=>obtain ⟨xs,e,z,r⟩:=h;exact ⟨xs,e,z,r.fresh hc⟩
 | dict ds=>obtain ⟨ep,xs,e,z,r⟩:=h;exact ⟨ep,xs,e,z,r.fresh hc⟩
 | _=>exact absurd h id
end
end L2
end
section
namespace L2
open PySem
def Dy (K:Fg) (tl:TE):TI:=fun σ H R=>sJ K tl σ H R\/Gg K tl σ H R
inductive Sl where | un | dat (d:PyData) | own (d:PyData) | ino (d:PyData) | ro (d:PyData)
abbrev En:=List Sl
inductive RV where | dat (d:PyData) | bor (i:Nat) | frs (d:PyData)
inductive PR where | dat (d:PyData) | frs (d:PyData)
inductive AV where | dat (d:PyData) | bor (i:Nat)
inductive PM where | dat | bor | ino
def PR.rv:PR->RV | .dat d=>.dat d | .frs d=>.frs d
def RV.av:RV->AV | .dat d=>.dat d | .frs d=>.dat d | .bor i=>.bor i
structure Fn where
 ms:List PM
 F:List PyData->Option (PR×List PyData)
def cont (env:En) (i:Nat):Option PyData:=match env[i]? with | some (.own d)=>some d | some (.ino d)=>some d | some (.ro d)=>some d | _=>none
def bp (env:En) (i:Nat):Option PyData:=match env[i]? with | some (.own d)=>some d | some (.ino d)=>some d | _=>none
def iR (env:En) (i:Nat) (d:PyData):En:=match env[i]? with | some (.own _)=>env.set i (.own d) | some (.ino _)=>env.set i (.ino d) | _=>env
def AV.view (env:En):AV->Option PyData | .dat d=>some d | .bor i=>cont env i
def RV.view (env:En) (r:RV):Option PyData:=r.av.view env
def mu (env:En) (i:Nat):Prop:=∃ d,env[i]?=some (.own d)\/env[i]?=some (.ino d)
def IA (env:En) (σ:St) (b:Addr):Prop:=∃ i,mu env i/\σ[i]?=some (some (.ref b))
def FF (F0:Addr->Prop) (env:En) (σ:St) (b:Addr):Prop:=F0 b\/∃ (i:Nat) (d:PyData),env[i]?=some (.own d)/\σ[i]?=some (some (.ref b))
def fZ (K:Fg) (F I:Addr->Prop) (H:Hp):PyData->Addr->Prop
 | .list ds,a=>∃ xs,LsF K I H a xs/\xs.length<=sizeLine/\DmL K F H ds xs
 | .dict kvs,a=>∃ ep xs,¬I a/\H a=some (.dD ep xs)/\xs.length<=sizeLine/\DmP K F H kvs xs
 | _,_=>False
structure Rel (K:Fg) (F0:Addr->Prop) (H₀:Hp) (I:Addr->Prop) (env:En) (σ:St) (H:Hp):Prop where
 len:env.length=σ.length
 dat:∀ (i:Nat) (d:PyData),env[i]?=some (.dat d)->∃ v,σ[i]?=some (some v)/\Dm K (FF F0 env σ) H d v
 own:∀ (i:Nat) (d:PyData),env[i]?=some (.own d)->∃ a,σ[i]?=some (some (.ref a))/\¬F0 a/\(H₀ a=none\/I a)/\Top K (FF F0 env σ) H d a
 ino:∀ (i:Nat) (d:PyData),env[i]?=some (.ino d)->∃ a,σ[i]?=some (some (.ref a))/\F0 a/\I a/\Top K (FF F0 env σ) H d a
 ro:∀ (i:Nat) (d:PyData),env[i]?=some (.ro d)->∃ a,σ[i]?=some (some (.ref a))/\fZ K (FF F0 env σ) (IA env σ) H d a
 sep:∀ i j a,mu env i->mu env j->σ[i]?=some (some (.ref a))->σ[j]?=some (some (.ref a))->i=j
 dom:∀ b,F0 b->H b≠none
 dX:∀ b o,H₀ b=some o->¬I b->H b=some o
section
variable {K:Fg} {F F' I I' F0:Addr->Prop} {H H' H₀:Hp} {env env':En} {σ σ':St}
theorem fZ.r {d:PyData} {a:Addr} (h:fZ K F I H d a):rK K F H d a:=by
 cases d with
 | list ds =>
  obtain ⟨xs,l,z,r⟩:=h;exact ⟨xs,l.elim (fun q=>.inl q.2) .inr,z,r⟩
 | dict ds=>obtain ⟨ep,xs,n,l,z,r⟩:=h;exact ⟨ep,xs,l,z,r⟩
 | _=>exact absurd h id
theorem fZ.pr {d:PyData} {a:Addr} (h:fZ K F I H d a) (p:Pr F H H') (hf:∀ b,F' b->F b) (hi:∀ b,I' b->I b) (k:∀ b o,H b=some o->¬I b->H' b=some o):fZ K F' I' H' d a:=by
 cases d with
 | list ds =>
  obtain ⟨xs,l,z,r⟩:=h;refine ⟨xs,?_,z,r.pr p hf⟩;rcases l with ⟨n,l | ⟨o,l⟩⟩ | l
  ·exact .inl ⟨fun q=>n (hi _ q),.inl (k _ _ l n)⟩
  ·exact .inl ⟨fun q=>n (hi _ q),.inr ⟨o,k _ _ l n⟩⟩
  ·exact .inr l
 | dict ds=>obtain ⟨ep,xs,n,l,z,r⟩:=h;exact ⟨ep,xs,fun q=>n (hi _ q),k _ _ l n,z,r.pr p hf⟩
 | _=>exact absurd h id
theorem fZ.fresh {d:PyData} {a c:Addr} (hc:H c=none) (h:fZ K F I H d a):fZ K (fun b=>F b\/b=c) I H d a:=by
 cases d with
 | list ds=>obtain ⟨xs,e,z,r⟩:=h;exact ⟨xs,e,z,r.fresh hc⟩
 | dict ds=>obtain ⟨ep,xs,n,e,z,r⟩:=h;exact ⟨ep,xs,n,e,z,r.fresh hc⟩
 | _=>exact absurd h id
theorem Dm.ro {d:PyData} {v:V} (h:Dm K F H d v) (hi:∀ b,I b->F b) (l:(∃ ds,d=.list ds)\/∃ ds,d=.dict ds):∃ a,v=.ref a/\fZ K F I H d a:=by
 rcases l with ⟨ds,rfl⟩ | ⟨ds,rfl⟩
 ·obtain ⟨a,xs,e,l,z,r⟩:=h;exact ⟨a,e,xs,l.elim (fun q=>.inl ⟨fun z=>q.1 (hi _ z),q.2⟩) .inr,z,r⟩
 ·obtain ⟨a,ep,xs,e,n,l,z,r⟩:=h;exact ⟨a,e,ep,xs,fun q=>n (hi _ q),l,z,r⟩
theorem Top.ro {d:PyData} {a:Addr} (h:Top K F H d a) (n:¬I a):fZ K F I H d a:=by
 cases d with
 | list ds=>obtain ⟨xs,e,z,r⟩:=h;exact ⟨xs,.inl ⟨n,.inl e⟩,z,r⟩
 | dict ds=>obtain ⟨ep,xs,e,z,r⟩:=h;exact ⟨ep,xs,n,e,z,r⟩
 | _=>exact absurd h id
theorem Rel.ia (R:Rel K F0 H₀ I env σ H) {b:Addr} (h:IA env σ b):FF F0 env σ b:=by
 obtain ⟨i,⟨d,e | e⟩,s⟩:=h
 ·exact .inr ⟨i,d,e,s⟩
 ·obtain ⟨a,s',f,_⟩:=R.ino i d e;rw [s] at s';cases s';exact .inl f
theorem Rel.iaT (R:Rel K F0 H₀ I env σ H) {b:Addr} (h:IA env σ b):∃ o,H b=some o/\Wr o=true:=by
 obtain ⟨i,⟨d,e | e⟩,s⟩:=h
 ·obtain ⟨a,s',_,_,t⟩:=R.own i d e;rw [s] at s';cases s';exact t.wr
 ·obtain ⟨a,s',_,_,t⟩:=R.ino i d e;rw [s] at s';cases s';exact t.wr
theorem Rel.iaI (R:Rel K F0 H₀ I env σ H) {b:Addr} (h:IA env σ b):H₀ b=none\/I b:=by
 obtain ⟨i,⟨d,e | e⟩,s⟩:=h
 ·obtain ⟨a,s',_,q,t⟩:=R.own i d e;rw [s] at s';cases s';exact q
 ·obtain ⟨a,s',_,q,t⟩:=R.ino i d e;rw [s] at s';cases s';exact .inr q
theorem Rel.fm (R:Rel K F0 H₀ I env σ H) {b:Addr} (h:FF F0 env σ b):H b≠none:=by
 rcases h with h | ⟨i,d,e,s⟩
 ·exact R.dom b h
 ·obtain ⟨o,q,_⟩:=R.iaT ⟨i,⟨d,.inl e⟩,s⟩;rw [q];exact nofun
theorem Rel.pL (R:Rel K F0 H₀ I env σ H) (k:∀ b o,H b=some o->¬IA env σ b->H' b=some o):Pr (FF F0 env σ) H H':=fun b o h n=>k b o h fun q=>by
 rcases n with n | n
 ·exact n (R.ia q)
 ·obtain ⟨o',h',w⟩:=R.iaT q;rw [h] at h';cases h';rw [n] at w;cases w
theorem Rel.rebase (R:Rel K F0 H₀ I env σ H):Rel K F0 H (IA env σ) env σ H :=
 ⟨R.len,R.dat,fun i d e=>let ⟨a,s,n,_,t⟩:=R.own i d e;⟨a,s,n,.inr ⟨i,⟨d,.inl e⟩,s⟩,t⟩,fun i d e=>let ⟨a,s,n,_,t⟩:=R.ino i d e;⟨a,s,n,⟨i,⟨d,.inr e⟩,s⟩,t⟩,R.ro,R.sep,R.dom,fun _ _ h _=>h⟩
theorem Rel.oi (R:Rel K F0 H₀ I env σ H) {a:Addr} (h:H a=none\/IA env σ a):H₀ a=none\/I a:=by
 rcases h with h | h
 ·cases e:H₀ a with
  | none=>exact .inl rfl
  | some o =>
   by_cases z:I a
   ·exact .inr z
   ·have:=R.dX a o e z;rw [h] at this;cases this
 ·exact R.iaI h
theorem Rel.bL (R:Rel K F0 H₀ I env σ H) (S:Rel K F0 H (IA env σ) env' σ' H'):Rel K F0 H₀ I env' σ' H':=by
 refine ⟨S.len,S.dat,fun i d e=>?_,fun i d e=>?_,S.ro,S.sep,S.dom,fun b o h n=>?_⟩
 ·obtain ⟨a,s,n,q,t⟩:=S.own i d e;exact ⟨a,s,n,R.oi q,t⟩
 ·obtain ⟨a,s,n,q,t⟩:=S.ino i d e;refine ⟨a,s,n,?_,t⟩;obtain ⟨j,⟨d',e' | e'⟩,s'⟩:=q
  ·obtain ⟨a',s2,n',_⟩:=R.own j d' e';rw [s'] at s2;cases s2;exact absurd n n'
  ·obtain ⟨a',s2,_,n',_⟩:=R.ino j d' e';rw [s'] at s2;cases s2;exact n'
 ·refine S.dX b o (R.dX b o h n) fun q=>?_;rcases R.iaI q with z | z
  ·rw [h] at z;cases z
  ·exact n z
def Evo:Sl->Sl->Prop
 | .un,s=>s=.un
 | .dat d,s=>s=.dat d
 | .own _,s=>(∃ d,s=.own d)\/(∃ d,s=.dat d)\/s=.un
 | .ino _,s=>∃ d,s=.ino d
 | .ro d,s=>s=.ro d
def KpE (env env':En):Prop:=env'.length=env.length/\∀ (i:Nat) (s:Sl),env[i]?=some s->∃ s',env'[i]?=some s'/\Evo s s'
theorem Evo.refl:∀ s,Evo s s
 | .un=>rfl
 | .dat _=>rfl
 | .own d=>.inl ⟨d,rfl⟩
 | .ino d=>⟨d,rfl⟩
 | .ro _=>rfl
theorem Evo.trans:∀ {a b c:Sl},Evo a b->Evo b c->Evo a c
 | .un,b,c,h,q=>by rw [show b=.un from h] at q;exact q
 | .dat d,b,c,h,q=>by rw [show b=.dat d from h] at q;exact q
 | .own d,b,c,h,q=>by
  rcases h with ⟨d,rfl⟩ | ⟨d,rfl⟩ | rfl
  ·exact q
  ·exact .inr (.inl ⟨d,q⟩)
  ·exact .inr (.inr q)
 | .ino d,b,c,h,q=>by obtain ⟨d,rfl⟩:=h;exact q
 | .ro d,b,c,h,q=>by rw [show b=.ro d from h] at q;exact q
theorem KpE.refl (env:En):KpE env env:=⟨rfl,fun i s e=>⟨s,e,.refl s⟩⟩
theorem KpE.trans {e1 e2 e3:En} (a:KpE e1 e2) (b:KpE e2 e3):KpE e1 e3:=⟨b.1.trans a.1,fun i s e=>by
 obtain ⟨s1,h1,v1⟩:=a.2 i s e;obtain ⟨s2,h2,v2⟩:=b.2 i s1 h1
 exact ⟨s2,h2,v1.trans v2⟩⟩
theorem KpE.back (k:KpE env env') {i:Nat} {s':Sl} (e:env'[i]?=some s'):∃ s,env[i]?=some s/\Evo s s':=by
 have hi:i < env'.length:=(Ie.mp e).1;have:env[i]?=some (env[i]'(by rw [<- k.1];exact hi)):=Ia _;obtain ⟨s2,h2,v⟩:=k.2 i _ this;rw [e] at h2;cases h2;exact ⟨_,this,v⟩
theorem KpE.own (k:KpE env env') {i:Nat} {d:PyData} (e:env'[i]?=some (.own d)):∃ d',env[i]?=some (.own d'):=by
 obtain ⟨s,h,v⟩:=k.back e;cases s with
 | un=>cases v
 | dat _=>cases v
 | own d'=>exact ⟨d',h⟩
 | ino _=>obtain ⟨_,v⟩:=v;cases v
 | ro _=>cases v
theorem KpE.ff (k:KpE env env') {b:Addr} (h:FF F0 env' σ b):FF F0 env σ b:=by
 rcases h with h | ⟨i,d,e,s⟩
 ·exact .inl h
 ·obtain ⟨d',e'⟩:=k.own e;exact .inr ⟨i,d',e',s⟩
theorem KpE.mu (k:KpE env env') {i:Nat} (h:mu env' i):mu env i:=by
 obtain ⟨d,h | h⟩:=h
 ·obtain ⟨d',e⟩:=k.own h;exact ⟨d',.inl e⟩
 ·obtain ⟨s,h,v⟩:=k.back h;cases s with
  | un=>cases v
  | dat _=>cases v
  | own d'=>rcases v with ⟨_,v⟩ | ⟨_,v⟩ | v <;> cases v
  | ino d'=>exact ⟨d',.inr h⟩
  | ro _=>cases v
theorem KpE.ia (k:KpE env env') {b:Addr} (h:IA env' σ b):IA env σ b:=let ⟨i,m,s⟩:=h;⟨i,k.mu m,s⟩
theorem Rel.pN (R:Rel K F0 H₀ I env σ H) (S:Rel K F0 H (IA env σ) env' σ H') (k:KpE env env') {d:PyData} {v:V} (h:Dm K (FF F0 env σ) H d v):Dm K (FF F0 env' σ) H' d v :=
 h.pr (R.pL fun b o e n=>S.dX b o e n) fun _ z=>k.ff z
theorem Rel.same (R:Rel K F0 H₀ I env σ H) (s:aY H H'):Rel K F0 H₀ I env σ H':=by
 have p:Pr (FF F0 env σ) H H':=Pr.of_same s;refine ⟨R.len,fun i d e=>?_,fun i d e=>?_,fun i d e=>?_,fun i d e=>?_,R.sep,fun b h=>?_,fun b o h n=>s _ _ (R.dX b o h n)⟩
 ·obtain ⟨v,q,r⟩:=R.dat i d e;exact ⟨v,q,r.pr p fun _ z=>z⟩
 ·obtain ⟨a,q,n,w,t⟩:=R.own i d e;exact ⟨a,q,n,w,t.pr p (fun _ z=>z) (fun o z=>s _ _ z)⟩
 ·obtain ⟨a,q,n,w,t⟩:=R.ino i d e;exact ⟨a,q,n,w,t.pr p (fun _ z=>z) (fun o z=>s _ _ z)⟩
 ·obtain ⟨a,q,t⟩:=R.ro i d e;exact ⟨a,q,t.pr p (fun _ z=>z) (fun _ z=>z) (fun b o z _=>s _ _ z)⟩
 ·cases e:H b with
  | none=>exact absurd e (R.dom b h)
  | some o=>rw [s _ _ e];exact nofun
theorem gh {c:Addr}:FF (fun b=>F0 b\/b=c) env σ=fun b=>FF F0 env σ b\/b=c:=by
 funext b;apply propext;constructor
 ·rintro ((h | h) | h)
  ·exact .inl (.inl h)
  ·exact .inr h
  ·exact .inl (.inr h)
 ·rintro ((h | h) | h)
  ·exact .inl (.inl h)
  ·exact .inr h
  ·exact .inl (.inr h)
theorem Rel.fresh (R:Rel K F0 H₀ I env σ H) {c:Addr} (hc:H c=none) {H':Hp} (s:aY H H') (hc':H' c≠none):Rel K (fun b=>F0 b\/b=c) H₀ I env σ H':=by
 have p:Pr (fun b=>FF F0 env σ b\/b=c) H H':=Pr.of_same s;have na:∀ i a,mu env i->σ[i]?=some (some (.ref a))->a≠c:=fun i a m q z=>by
  obtain ⟨o,h,_⟩:=R.iaT ⟨i,m,q⟩;rw [z,hc] at h;cases h
 refine ⟨R.len,fun i d e=>?_,fun i d e=>?_,fun i d e=>?_,fun i d e=>?_,R.sep,fun b h=>?_,fun b o h n=>s _ _ (R.dX b o h n)⟩
 ·obtain ⟨v,q,r⟩:=R.dat i d e;rw [gh];exact ⟨v,q,(r.fresh hc).pr p fun _ z=>z⟩
 ·obtain ⟨a,q,n,w,t⟩:=R.own i d e;rw [gh];exact ⟨a,q,fun z=>z.elim n (na i a ⟨d,.inl e⟩ q),w,(t.fresh hc).pr p (fun _ z=>z) (fun o z=>s _ _ z)⟩
 ·obtain ⟨a,q,n,w,t⟩:=R.ino i d e;rw [gh];exact ⟨a,q,.inl n,w,(t.fresh hc).pr p (fun _ z=>z) (fun o z=>s _ _ z)⟩
 ·obtain ⟨a,q,t⟩:=R.ro i d e;rw [gh];exact ⟨a,q,(t.fresh hc).pr p (fun _ z=>z) (fun _ z=>z) (fun b o z _=>s _ _ z)⟩
 ·rcases h with h | h
  ·cases e:H b with
   | none=>exact absurd e (R.dom b h)
   | some o=>rw [s _ _ e];exact nofun
  ·rw [h];exact hc'
theorem Rel.less {c:Addr} (R:Rel K (fun b=>F0 b\/b=c) H₀ I env σ H) (hi:∀ (i:Nat) (d:PyData),env[i]?=some (.ino d)->σ[i]?≠some (some (.ref c))):Rel K F0 H₀ I env σ H:=by
 have hf:∀ b,FF F0 env σ b->FF (fun b=>F0 b\/b=c) env σ b:=fun b z=>by rw [gh];exact .inl z
 refine ⟨R.len,fun i d e=>?_,fun i d e=>?_,fun i d e=>?_,fun i d e=>?_,R.sep,fun b h=>R.dom b (.inl h),R.dX⟩
 ·obtain ⟨v,q,r⟩:=R.dat i d e;exact ⟨v,q,r.mono hf⟩
 ·obtain ⟨a,q,n,w,t⟩:=R.own i d e;exact ⟨a,q,fun z=>n (.inl z),w,t.pr Pr.refl hf fun _ z=>z⟩
 ·obtain ⟨a,q,n,w,t⟩:=R.ino i d e;refine ⟨a,q,?_,w,t.pr Pr.refl hf fun _ z=>z⟩;rcases n with n | n
  ·exact n
  ·exact absurd (n▸q) (hi i d e)
 ·obtain ⟨a,q,t⟩:=R.ro i d e;exact ⟨a,q,t.pr Pr.refl hf (fun _ z=>z) fun _ _ z _=>z⟩
end
end L2
end
section
namespace L2
open PySem
def xQ (K:Fg) (F:Addr->Prop) (H H':Hp):PR->V->Prop
 | .dat d,v=>Dm K F H' d v
 | .frs d,v=>∃ a,v=.ref a/\H a=none/\Top K (fun b=>F b\/b=a) H' d a
def VwL (K:Fg) (F:Addr->Prop) (H:Hp):List PyData->List V->Prop
 | [],vs=>vs=[]
 | d :: ds,vs=>∃ v r,vs=v :: r/\Vw K F H d v/\VwL K F H ds r
structure Cst where
 d:PyData
 v:V
 ok:∀ (K:Fg) (F:Addr->Prop) (H:Hp),Dm K F H d v
def Cst.i (i:Int):Cst:=⟨.int i,.int i,fun _ _ _=>rfl⟩
def Cst.s (x:Str) (h:x.length<=sizeLine) (h2:PyData.strOk x=true):Cst:=⟨.str x,.str x,fun _ _ _=>⟨rfl,h,h2⟩⟩
def Cst.b (b:Bool):Cst:=⟨.bool b,.bl b,fun _ _ _=>rfl⟩
def Cst.n:Cst:=⟨.none,.non,fun _ _ _=>rfl⟩
structure Prm where
 r:Fg->List V->Hp->VK->Prop
 f:List PyData->Option PR
 ok:∀ (K:Fg) (F:Addr->Prop) (H:Hp) (ds:List PyData) (vs:List V) (pr:PR) (Q:VK),f ds=some pr->VwL K F H ds vs->(∀ b,F b->H b≠none)->(∀ v H',aY H H'->xQ K F H H' pr v->Q v H')->r K vs H Q
structure Mtd where
 T:String
 r:Fg->V->List V->Hp->VK->Prop
 ty:PyData->Bool
 f:PyData->List PyData->Option PR
 FL:∀ (K:Fg) (F:Addr->Prop) (H:Hp) (d:PyData) (v:V),ty d=true->Vw K F H d v->tyV K T v H
 ok:∀ (K:Fg) (F:Addr->Prop) (H:Hp) (d:PyData) (v:V) (ds:List PyData) (vs:List V) (pr:PR) (Q:VK),f d ds=some pr->Vw K F H d v->VwL K F H ds vs->(∀ b,F b->H b≠none)->(∀ v H',aY H H'->xQ K F H H' pr v->Q v H')->r K v vs H Q
def MvL (K:Fg) (F:Addr->Prop) (H:Hp):List (Bool×PyData)->List V->Prop
 | [],vs=>vs=[]
 | (true,d) :: ds,vs=>∃ v r,vs=v :: r/\Dm K F H d v/\MvL K F H ds r
 | (false,d) :: ds,vs=>∃ v r,vs=v :: r/\Vw K F H d v/\MvL K F H ds r
structure Mtr where
 T:String
 r:Fg->V->List V->Hp->VK->Prop
 ty:PyData->Bool
 f:PyData->List (Bool×PyData)->Option (PyData×PyData)
 FL:∀ (K:Fg) (F:Addr->Prop) (H:Hp) (d:PyData) (a:Addr),ty d=true->Top K F H d a->tyV K T (.ref a) H
 ok:∀ (K:Fg) (F:Addr->Prop) (H:Hp) (d:PyData) (a:Addr) (as:List (Bool×PyData)) (vs:List V) (d' x:PyData) (Q:VK),f d as=some (d',x)->F a->Top K F H d a->MvL K F H as vs ->
  (∀ v H',(∀ b o,b≠a->H b=some o->H' b=some o)->Top K F H' d' a->Dm K F H' x v->Q v H')->r K (.ref a) vs H Q
structure xI where
 r:Fg->V->V->V->Hp->(Hp->Prop)->Prop
 f:PyData->PyData->PyData->Option PyData
 ok:∀ (K:Fg) (F:Addr->Prop) (H:Hp) (d:PyData) (a:Addr) (k x:PyData) (vk vx:V) (d':PyData) (Q:Hp->Prop),f d k x=some d'->F a->Top K F H d a->Vw K F H k vk->Dm K F H x vx ->
  (∀ H',(∀ b o,b≠a->H b=some o->H' b=some o)->Top K F H' d' a->Q H')->r K (.ref a) vk vx H Q
mutual
inductive XE where
 | var (i:Nat) | mov (i:Nat) | tke (i:Nat) | cst (c:Cst) | glb (g:Nat)
 | prm (p:Prm) (as:XA) | met (m:Mtd) (o:XE) (as:XA) | mtr (m:Mtr) (i:Nat) (as:XA) | call (f:Fn) (as:XA)
 | tup (as:XA) | lst (as:XA) | dsp (as:XP) | fst (as:XA)
 | ifx (c:XT) (a b:XE) | ug (a b:XE) | orv (a b:XE) | zV (a:XE) | chn (p q:Prm) (a b c:XE) | sl2 (p:Int->Int->Prm) (a b c:XE)
 | cmp (js:List Nat) (it:XI) (c:XT) (e:XE) | AY (n:List Str) (js:List Nat) (it:XI) (e:XE)
inductive XA where | nil | cons (e:XE) (r:XA)
inductive XP where | nil | cons (k e:XE) (r:XP)
inductive XT where | tst (e:XE) | tru (e:XE) | and (a b:XT) | or (a b:XT) | not (a:XT) | yes
inductive XI where | lst (e:XE) | tup (e:XE) | str (e:XE) | rng1 (as:XA) | rng2 (as:XA) | dct (e:XE) | zip (as:XA) | sq (e:XE)
end
inductive XS where
 | skip | seq (a b:XS) | fq (i:Nat) (e:XE) | x8 (i:Nat) (e:XE) | Df (is:List Nat) (e:XE) | drop (e:XE) | ret (e:XE) | Dx
 | ifs (c:XT) (a b:XS) | fr (i:Nat) (it:XI) (b:XS) | frT (is:List Nat) (it:XI) (b:XS) | wh (n:Nat) (c:XT) (b:XS) | brk | cnt | nev | sto (m:xI) (i:Nat) (k e:XE)
def gNs:List Nat->TGs
 | []=>HK
 | i :: r=>Eu (aZ i) (gNs r)
def gTp (K:PySem.W.Frag) (is:List Nat):TG:=HZ K is.length (gNs is)
def Hd:List TE->TE:=fun ts=>tFs ts Str.empty
def NoE:XK:=fun _ _ _=>False
def ze (K:PySem.W.Frag) (G I:Addr->Prop) (H:Hp) (d:PyData) (v:V):Prop:=match d with
 | .tuple ds=>Dm K G H (.tuple ds) v
 | d=>∃ a,v=.ref a/\fZ K G I H d a
def cq (K:PySem.W.Frag) (G I:Addr->Prop) (H:Hp):List PM->List PyData->List V->List Addr->Prop
 | [],[],[],is=>is=[]
 | .dat :: ms,d :: ds,v :: vs,is=>Dm K G H d v/\cq K G I H ms ds vs is
 | .bor :: ms,d :: ds,v :: vs,is=>ze K G I H d v/\cq K G I H ms ds vs is
 | .ino :: ms,d :: ds,v :: vs,is=>∃ a r,v=.ref a/\is=a :: r/\G a/\Top K G H d a/\a ∉ r/\cq K G I H ms ds vs r
 | _,_,_,_=>False
def i9 (K:PySem.W.Frag) (G:Addr->Prop) (H:Hp):List PyData->List Addr->Prop
 | [],[]=>True
 | d :: ds,a :: r=>Top K G H d a/\i9 K G H ds r
 | _,_=>False
def E9 (K:PySem.W.Frag) (G:Addr->Prop) (H H':Hp) (outs:List PyData) (is:List Addr):PR->V->Prop
 | .dat d,v=>Dm K G H' d v/\i9 K G H' outs is
 | .frs d,v=>∃ a,v=.ref a/\H a=none/\Top K (fun b=>G b\/b=a) H' d a/\i9 K (fun b=>G b\/b=a) H' outs is
def fi (f:Fn) (K:PySem.W.Frag):Sp:=fun vs H Q _=>∃ (G:Addr->Prop) (ds:List PyData) (is:List Addr) (pr:PR) (outs:List PyData),f.F ds=some (pr,outs)/\cq K G (·∈is) H f.ms ds vs is/\(∀ b,G b->H b≠none) /\
 ∀ v' H',(∀ b o,H b=some o->b ∉ is->H' b=some o)->E9 K G H H' outs is pr v'->Q v' H'
section
variable (K:PySem.W.Frag) (ga:Nat->V)
mutual
def rE:XE->TE
 | .var i=>ao i | .mov i=>ao i | .tke i=>ao i | .cst c=>tC c.v | .glb g=>tC (ga g)
 | .prm p as=>tCB (p.r K) (rA as) | .met m o as=>tBM K m.T (m.r K) (rE o) (rA as) | .mtr m i as=>tBM K m.T (m.r K) (ao i) (rA as) | .call f as=>aG (fi f K) [] NoE (rA as)
 | .tup as=>gz (rA as) | .lst as=>kZ (rA as) | .dsp as=>o4 (rP as) | .fst as=>Hd (rF as)
 | .ifx c a b=>tIf (rT c) (rE a) (rE b) | .ug a b=>kI (rE a) (rE b) | .orv a b=>Ag (rE a) (rE b) | .zV a=>sy (rE a)
 | .chn p q a b c=>iX (fun x y=>p.r K [x,y]) (fun x y=>q.r K [x,y]) (rE a) (rE b) (rE c)
 | .sl2 p a b c=>fun σ H Q=>rE a σ H fun x H1=>rE b σ H1 fun y H2=>∃ i,y=.int i/\rE c σ H2 fun z H3=>∃ j,z=.int j/\(p i j).r K [x] H3 Q
 | .cmp js it c e=>jR js (rI_ it) (rT c) (rE e) | .AY n js it e=>Dh n js (rI_ it) (gTp K (List.range n.length)) (rE e)
def rA:XA->TA
 | .nil=>aq | .cons e r=>ae (rE e) (rA r)
def rF:XA->List TE
 | .nil=>[] | .cons e r=>rE e :: rF r
def rP:XP->List (TE×TE)
 | .nil=>[] | .cons k e r=>(rE k,rE e) :: rP r
def rT:XT->TT
 | .tst e=>tB (rE e) | .tru e=>G7 K (rE e) | .and a b=>Hg (rT a) (rT b) | .or a b=>tOr (rT a) (rT b) | .not a=>pe (rT a) | .yes=>wj
def rI_:XI->TI
 | .lst e=>sJ K (rE e) | .tup e=>Gg K (rE e) | .str e=>DA (rE e) | .rng1 as=>oa (rA as) | .rng2 as=>ER (rA as) | .dct e=>Ht (rE e) | .zip as=>HN K (rA as) | .sq e=>Dy K (rE e)
end
def rS:XS->TS
 | .skip=>cA | .seq a b=>b8 (rS a) (rS b) | .fq i e=>dB (rE K ga e) (aZ i) | .x8 i e=>dB (rE K ga e) (aZ i) | .Df is e=>dB (rE K ga e) (gTp K is) | .drop e=>EA (rE K ga e) | .ret e=>cH (rE K ga e) | .Dx=>DX
 | .ifs c a b=>iO (rT K ga c) (rS a) (rS b) | .fr i it b=>zW (rI_ K ga it) (aZ i) (rS b) | .frT is it b=>zW (rI_ K ga it) (gTp K is) (rS b) | .wh n c b=>oT (rT K ga c) (rS b) | .brk=>CI | .cnt=>Ek | .nev=>qZ
 | .sto m i k e=>fun D σ H=>rE K ga e σ H fun x H1=>ao i σ H1 fun o H2=>rE K ga k σ H2 fun y H3=>m.r K o y x H3 (D.nx σ)
end
def D9:PyData->Bool
 | .none=>false | .bool b=>b | .int i=>i != 0 | .str x=>(x.length:Int) != 0 | .list ds=>!ds.isEmpty | .tuple ds=>!ds.isEmpty | .dict ds=>!ds.isEmpty
def FP:PyData->Bool | .dict _=>true | _=>false
def nH (lk:Bool):Sl->Sl
 | .own d=>if lk then .ro d else .ino d
 | .ino d=>if lk then .ro d else .ino d
 | s=>s
def ft (env:En) (lock:Option Nat) (js:List Nat):En:=js.map fun j=>nH (decide (lock=some j)) (env[j]?.getD .un)
def bh:En->List Nat->En->En
 | env,j :: js,.ino d :: es=>bh (iR env j d) js es
 | env,_ :: js,_ :: es=>bh env js es
 | env,_,_=>env
def vc (step:PyData->En->Option (Option PyData×En)):List PyData->En->Option (List PyData×En)
 | [],env=>some ([],env)
 | d :: ds,env=>match step d env with
  | some (y,e1)=>match vc step ds e1 with
   | some (ys,e2)=>some (y.toList++ys,e2)
   | none=>none
  | none=>none
def FZ (env:En):PM->AV->Option PyData
 | .dat,.dat d=>some d
 | .bor,.dat (.list d)=>some (.list d)
 | .bor,.dat (.dict d)=>some (.dict d)
 | .bor,.dat (.tuple d)=>some (.tuple d)
 | .bor,.bor i=>cont env i
 | .ino,.bor i=>bp env i
 | _,_=>none
def j3 (env:En):List PM->List AV->Option (List PyData)
 | [],[]=>some []
 | m :: ms,a :: as=>match FZ env m a,j3 env ms as with
  | some d,some ds=>some (d :: ds)
  | _,_=>none
 | _,_=>none
def dq:List PM->List AV->List Nat
 | .ino :: ms,.bor i :: as=>i :: dq ms as
 | _ :: ms,_ :: as=>dq ms as
 | _,_=>[]
def uO:List PM->List AV->List Nat
 | .bor :: ms,.bor i :: as=>i :: uO ms as
 | _ :: ms,_ :: as=>uO ms as
 | _,_=>[]
def dU:En->List Nat->List PyData->En
 | env,i :: is,d :: ds=>dU (iR env i d) is ds
 | env,_,_=>env
def zD:List Nat->Bool
 | []=>true
 | x :: xs=>!xs.contains x&&zD xs
def ckA (is bs:List Nat) (n:Nat):Bool:=zD is&&(bs.all (fun i=>!is.contains i)&&n==is.length)
def v5 (f:Fn) (avs:List AV) (env:En):Option (RV×En) :=
 match j3 env f.ms avs with
 | none=>none
 | some ds=>match f.F ds with
  | none=>none
  | some (pr,outs)=>if ckA (dq f.ms avs) (uO f.ms avs) outs.length=true then some (pr.rv,dU env (dq f.ms avs) outs) else none
def cn (env:En):List AV->Option (List PyData)
 | []=>some []
 | a :: as=>match a.view env,cn env as with
  | some d,some ds=>some (d :: ds)
  | _,_=>none
def AV.E2:AV->Bool | .dat _=>true | .bor _=>false
def gN (env:En):List AV->Option (List (Bool×PyData))
 | []=>some []
 | a :: as=>match a.view env,gN env as with
  | some d,some ds=>some ((a.E2,d) :: ds)
  | _,_=>none
def m4:List AV->Option (List PyData)
 | []=>some []
 | .dat d :: as=>match m4 as with | some ds=>some (d :: ds) | none=>none
 | .bor _ :: _=>none
def Gv:List AV->Option (List Str)
 | []=>some []
 | .dat (.str x) :: as=>match Gv as with | some ds=>some (x :: ds) | none=>none
 | _ :: _=>none
def keyOf:PyData->Option Key | .int i=>some (.inl i) | .str x=>some (.inr x) | _=>none
def putD (kvs:List (PyData×PyData)) (k d:PyData):List (PyData×PyData) :=
 if (kvs.any fun kv=>PyData.eqv kv.1 k)=true then kvs.map (fun kv=>if PyData.eqv kv.1 k=true then (kv.1,d) else kv) else kvs++[(k,d)]
def getD (kvs:List (PyData×PyData)) (k:PyData):Option PyData:=(kvs.find? fun kv=>PyData.eqv kv.1 k).map (·.2)
def cc (env:En):Option Nat->En
 | some i=>match env[i]? with | some (.own d)=>env.set i (.ro d) | some (.ino d)=>env.set i (.ro d) | _=>env
 | none=>env
def aK (Cb:En) (lock:Option Nat) (env:En):En:=match lock with
 | some i=>match Cb[i]?,env[i]? with
  | some (.own _),some (.ro d)=>env.set i (.own d)
  | some (.ino _),some (.ro d)=>env.set i (.ino d)
  | _,_=>env
 | none=>env
def jU (t:En->Option (Bool×En)) (b:En->Option (RV×En)) (d:PyData) (ec:En):Option (Option PyData×En):=match t (.dat d :: ec) with
 | some (true,e2)=>match b e2 with
  | some (rv,e3)=>match rv.av with | .dat y=>some (some y,e3.tail) | .bor _=>none
  | none=>none
 | some (false,e2)=>some (none,e2.tail)
 | none=>none
def lz (n:Nat) (b:En->Option (RV×En)) (d:PyData) (ec:En):Option (Option PyData×En):=match d with
 | .tuple xs=>if xs.length=n then match b (xs.map .dat++ec) with
   | some (rv,e3)=>match rv.av with | .dat y=>some (some y,e3.drop n) | .bor _=>none
   | none=>none
  else none
 | _=>none
def roL (e:En):AV->Option (List PyData)
 | .dat (.list xs)=>some xs
 | .bor i=>match e[i]? with | some (.ro (.list xs))=>some xs | _=>none
 | _=>none
mutual
def dE (gd:List PyData):XE->En->Option (RV×En)
 | .var i,env=>match env[i]? with | some (.dat d)=>some (.dat d,env) | some (.own _)=>some (.bor i,env) | some (.ino _)=>some (.bor i,env) | some (.ro _)=>some (.bor i,env) | _=>none
 | .mov i,env=>match env[i]? with | some (.own d)=>some (.dat d,env.set i (.dat d)) | _=>none
 | .tke i,env=>match env[i]? with | some (.own d)=>some (.frs d,env.set i .un) | _=>none
 | .cst c,env=>some (.dat c.d,env)
 | .glb g,env=>match gd[g]? with | some d=>some (.dat d,env) | none=>none
 | .prm p as,env=>match dA gd as env with
  | some (avs,e1)=>match cn e1 avs with
   | some ds=>match p.f ds with | some pr=>some (pr.rv,e1) | none=>none
   | none=>none
  | none=>none
 | .met m o as,env=>match dE gd o env with
  | some (rv,e1)=>match rv.view e1 with
   | some d0=>if m.ty d0=true then match dA gd as e1 with
     | some (avs,e2)=>match rv.view e2,cn e2 avs with
      | some d,some ds=>match m.f d ds with | some pr=>some (pr.rv,e2) | none=>none
      | _,_=>none
     | none=>none
    else none
   | none=>none
  | none=>none
 | .mtr m i as,env=>match bp env i with
  | some d0=>if m.ty d0=true then match dA gd as env with
    | some (avs,e1)=>match bp e1 i,gN e1 avs with
     | some d,some ds=>match m.f d ds with | some (d',x)=>some (.dat x,iR e1 i d') | none=>none
     | _,_=>none
    | none=>none
   else none
  | none=>none
 | .call f as,env=>match dA gd as env with
  | some (avs,e1)=>v5 f avs e1
  | none=>none
 | .tup as,env=>match dA gd as env with
  | some (avs,e1)=>match m4 avs with | some ds=>if ds.length<=sizeLine then some (.dat (.tuple ds),e1) else none | none=>none
  | none=>none
 | .lst as,env=>match dA gd as env with
  | some (avs,e1)=>match m4 avs with | some ds=>if ds.length<=sizeLine then some (.frs (.list ds),e1) else none | none=>none
  | none=>none
 | .dsp as,env=>match dP gd as env with
  | some (kvs,e1)=>if kvs.length<=15 then some (.frs (.dict (kvs.foldl (fun acc kv=>putD acc (kD kv.1) kv.2) [])),e1) else none
  | none=>none
 | .fst as,env=>match dF gd as Str.empty env with
  | some (x,e1)=>some (.dat (.str x),e1)
  | none=>none
 | .ifx c a b,env=>match dT gd c env with
  | some (true,e1)=>dE gd a e1
  | some (false,e1)=>dE gd b e1
  | none=>none
 | .ug a b,env=>match dE gd a env with
  | some (.dat (.bool true),e1)=>dE gd b e1
  | some (.dat (.bool false),e1)=>some (.dat (.bool false),e1)
  | _=>none
 | .orv a b,env=>match dE gd a env with
  | some (.dat (.bool true),e1)=>some (.dat (.bool true),e1)
  | some (.dat (.bool false),e1)=>dE gd b e1
  | _=>none
 | .zV a,env=>match dE gd a env with
  | some (.dat (.bool x),e1)=>some (.dat (.bool (!x)),e1)
  | _=>none
 | .chn p q a b c,env=>match dE gd a env with
  | some (ra,e1)=>match dE gd b e1 with
   | some (rb,e2)=>match ra.av,rb.av with
    | .dat x,.dat y=>match p.f [x,y] with
     | some (.dat (.bool true))=>match dE gd c e2 with
      | some (rc,e3)=>match rc.av with
       | .dat z=>match q.f [y,z] with | some pr=>some (pr.rv,e3) | none=>none
       | _=>none
      | none=>none
     | some (.dat (.bool false))=>some (.dat (.bool false),e2)
     | _=>none
    | _,_=>none
   | none=>none
  | none=>none
 | .sl2 p a b c,env=>match dE gd a env with
  | some (ra,e1)=>match dE gd b e1 with
   | some (.dat (.int i),e2)=>match dE gd c e2 with
    | some (.dat (.int j),e3)=>match ra.view e3 with
     | some d=>match (p i j).f [d] with | some pr=>some (pr.rv,e3) | none=>none
     | none=>none
    | _=>none
   | _=>none
  | none=>none
 | .cmp js it c e,env=>match dI gd it env with
  | some (ds,lock,e1)=>if js.Nodup then match vc (jU (dT gd c) (dE gd e)) ds (ft e1 lock js) with
    | some (ys,ec)=>some (.frs (.list ys),bh e1 js ec)
    | none=>none
   else none
  | none=>none
 | .AY n js it e,env=>match dI gd it env with
  | some (ds,lock,e1)=>if js.Nodup then match vc (lz n.length (dE gd e)) ds (ft e1 lock js) with
    | some (ys,ec)=>some (.frs (.list ys),bh e1 js ec)
    | none=>none
   else none
  | none=>none
def dA (gd:List PyData):XA->En->Option (List AV×En)
 | .nil,env=>some ([],env)
 | .cons e r,env=>match dE gd e env with
  | some (rv,e1)=>match dA gd r e1 with
   | some (avs,e2)=>some (rv.av :: avs,e2)
   | none=>none
  | none=>none
def dF (gd:List PyData):XA->Str->En->Option (Str×En)
 | .nil,out,env=>if out.length<=sizeLine then some (out,env) else none
 | .cons e r,out,env=>match dE gd e env with
  | some (.dat (.str x),e1)=>if (out++x).length<=sizeLine then dF gd r (out++x) e1 else none
  | _=>none
def dP (gd:List PyData):XP->En->Option (List (Key×PyData)×En)
 | .nil,env=>some ([],env)
 | .cons k e r,env=>match dE gd k env with
  | some (rk,e1)=>match dE gd e e1 with
   | some (rv,e2)=>match dP gd r e2 with
    | some (kvs,e3)=>match rk.av,rv.av with
     | .dat dk,.dat d=>match keyOf dk with | some k=>some ((k,d) :: kvs,e3) | none=>none
     | _,_=>none
    | none=>none
   | none=>none
  | none=>none
def dT (gd:List PyData):XT->En->Option (Bool×En)
 | .tst e,env=>match dE gd e env with | some (.dat (.bool b),e1)=>some (b,e1) | _=>none
 | .tru e,env=>match dE gd e env with
  | some (rv,e1)=>match rv.view e1 with | some d=>if FP d=true then none else some (D9 d,e1) | none=>none
  | none=>none
 | .and a b,env=>match dT gd a env with | some (true,e1)=>dT gd b e1 | some (false,e1)=>some (false,e1) | none=>none
 | .or a b,env=>match dT gd a env with | some (true,e1)=>some (true,e1) | some (false,e1)=>dT gd b e1 | none=>none
 | .not a,env=>match dT gd a env with | some (b,e1)=>some (!b,e1) | none=>none
 | .yes,env=>some (true,env)
def dI (gd:List PyData):XI->En->Option (List PyData×Option Nat×En)
 | .lst e,env=>match dE gd e env with
  | some (rv,e1)=>match rv.av with
   | .dat (.list ds)=>some (ds,none,e1)
   | .dat _=>none
   | .bor i=>match cont e1 i with | some (.list ds)=>some (ds,some i,e1) | _=>none
  | none=>none
 | .dct e,env=>match dE gd e env with
  | some (rv,e1)=>match rv.av with
   | .dat (.dict kvs)=>some (kvs.map (·.1),none,e1)
   | .dat _=>none
   | .bor i=>match cont e1 i with | some (.dict kvs)=>some (kvs.map (·.1),some i,e1) | _=>none
  | none=>none
 | .tup e,env=>match dE gd e env with
  | some (rv,e1)=>match rv.av with | .dat (.tuple ds)=>some (ds,none,e1) | _=>none
  | none=>none
 | .sq e,env=>match dE gd e env with
  | some (rv,e1)=>match rv.av with
   | .dat (.list ds)=>some (ds,none,e1)
   | .dat (.tuple ds)=>some (ds,none,e1)
   | .dat _=>none
   | .bor i=>match cont e1 i with | some (.list ds)=>some (ds,some i,e1) | _=>none
  | none=>none
 | .str e,env=>match dE gd e env with
  | some (rv,e1)=>match rv.av with | .dat (.str x)=>some (x.cps.toList.map fun c=>.str ⟨#[c]⟩,none,e1) | _=>none
  | none=>none
 | .rng1 as,env=>match dA gd as env with
  | some (avs,e1)=>match avs with | [.dat (.int j)]=>if -(2 ^ 62)<=j/\j<=2 ^ 24 then some ((List.range j.toNat).map fun (k:Nat)=>.int ((0:Int)+(k:Int)),none,e1) else none | _=>none
  | none=>none
 | .zip as,env=>match dA gd as env with
  | some (avs,e1)=>match avs with
   | [x,y]=>match roL e1 x,roL e1 y with | some xs,some ys=>some ((xs.zip ys).map fun p=>.tuple [p.1,p.2],none,e1) | _,_=>none
   | _=>none
  | none=>none
 | .rng2 as,env=>match dA gd as env with
  | some (avs,e1)=>match avs with | [.dat (.int i),.dat (.int j)]=>if -(2 ^ 62)<=i/\i < 2 ^ 62/\-(2 ^ 62)<=j/\j < 2 ^ 62/\j - i<=2 ^ 24 then some ((List.range (j - i).toNat).map fun (k:Nat)=>.int (i+(k:Int)),none,e1) else none | _=>none
  | none=>none
end
def lkd (env:En):Option Nat->Bool
 | some i=>match env[i]? with | some (.own _)=>true | some (.ino _)=>true | _=>false
 | none=>false
def RV.soft (b:Bool):RV->RV | .frs d=>if b then .dat d else .frs d | r=>r
inductive Out where | nx (env:En) | rt (rv:RV) (env:En) | bk (env:En) | ct (env:En)
def Out.map (b:Bool) (f:En->En):Out->Out | .nx e=>.nx (f e) | .rt r e=>.rt (r.soft b) (f e) | .bk e=>.bk (f e) | .ct e=>.ct (f e)
def forL (b:PyData->En->Option Out):List PyData->En->Option Out
 | [],env=>some (.nx env)
 | d :: ds,env=>match b d env with
  | some (.nx e)=>forL b ds e
  | some (.ct e)=>forL b ds e
  | some (.bk e)=>some (.nx e)
  | some (.rt r e)=>some (.rt r e)
  | none=>none
def whL (t:En->Option (Bool×En)) (b:En->Option Out):Nat->En->Option Out
 | 0,_=>none
 | n+1,env=>match t env with
  | some (true,e1)=>match b e1 with
   | some (.nx e)=>whL t b n e
   | some (.ct e)=>whL t b n e
   | some (.bk e)=>some (.nx e)
   | some (.rt r e)=>some (.rt r e)
   | none=>none
  | some (false,e1)=>some (.nx e1)
  | none=>none
def free (env:En) (i:Nat):Bool:=match env[i]? with | some .un=>true | some (.dat _)=>true | some (.own _)=>true | _=>false
def gu:En->List Nat->List PyData->Option En
 | env,[],[]=>some env
 | env,i :: is,d :: ds=>if free env i=true then gu (env.set i (.dat d)) is ds else none
 | _,_,_=>none
def j8 (i:Nat) (b:En->Option Out) (d:PyData) (e:En):Option Out:=if free e i=true then b (e.set i (.dat d)) else none
def jr (is:List Nat) (b:En->Option Out) (d:PyData) (e:En):Option Out:=match d with
 | .tuple xs=>match gu e is xs with | some e2=>b e2 | none=>none
 | _=>none
def dS (gd:List PyData):XS->En->Option Out
 | .skip,env=>some (.nx env)
 | .seq a b,env=>match dS gd a env with
  | some (.nx e)=>dS gd b e
  | o=>o
 | .fq i e,env=>match dE gd e env with
  | some (rv,e1)=>match rv.av with | .dat d=>if free e1 i=true then some (.nx (e1.set i (.dat d))) else none | .bor _=>none
  | none=>none
 | .x8 i e,env=>match dE gd e env with
  | some (.frs d,e1)=>if free e1 i=true then some (.nx (e1.set i (.own d))) else none
  | _=>none
 | .Df is e,env=>match dE gd e env with
  | some (rv,e1)=>match rv.av with
   | .dat (.tuple ds)=>match gu e1 is ds with | some e2=>some (.nx e2) | none=>none
   | _=>none
  | none=>none
 | .drop e,env=>match dE gd e env with | some (_,e1)=>some (.nx e1) | none=>none
 | .ret e,env=>match dE gd e env with | some (rv,e1)=>some (.rt rv e1) | none=>none
 | .Dx,env=>some (.rt (.dat .none) env)
 | .ifs c a b,env=>match dT gd c env with
  | some (true,e1)=>dS gd a e1
  | some (false,e1)=>dS gd b e1
  | none=>none
 | .fr i it b,env=>match dI gd it env with
  | some (ds,lock,e1)=>(forL (j8 i (dS gd b)) ds (cc e1 lock)).map (Out.map (lkd e1 lock) (aK e1 lock))
  | none=>none
 | .frT is it b,env=>match dI gd it env with
  | some (ds,lock,e1)=>(forL (jr is (dS gd b)) ds (cc e1 lock)).map (Out.map (lkd e1 lock) (aK e1 lock))
  | none=>none
 | .wh n c b,env=>whL (dT gd c) (dS gd b) n env
 | .brk,env=>some (.bk env)
 | .cnt,env=>some (.ct env)
 | .nev,_=>none
 | .sto m i k e,env=>match dE gd e env with
  | some (rv,e1)=>match rv.av with
   | .dat x=>match bp e1 i with
    | some _=>match dE gd k e1 with
     | some (rk,e2)=>match rk.view e2,bp e2 i with
      | some dk,some d=>match m.f d dk x with | some d'=>some (.nx (iR e2 i d')) | none=>none
      | _,_=>none
     | none=>none
    | none=>none
   | .bor _=>none
  | none=>none
def xZ:PyData->Sl | .tuple ds=>.dat (.tuple ds) | d=>.ro d
def ax:List PM->List PyData->Nat->En
 | .dat :: ms,d :: ds,n=>.dat d :: ax ms ds (n - 1)
 | .bor :: ms,d :: ds,n=>xZ d :: ax ms ds (n - 1)
 | .ino :: ms,d :: ds,n=>.ino d :: ax ms ds (n - 1)
 | _,_,n=>List.replicate n .un
def jw:List PM->En->Option (List PyData)
 | .ino :: ms,.ino d :: es=>match jw ms es with | some ds=>some (d :: ds) | none=>none
 | .ino :: _,_=>none
 | _ :: ms,_ :: es=>jw ms es
 | _,_=>some []
def RV.pr:RV->Option PR | .dat d=>some (.dat d) | .frs d=>some (.frs d) | .bor _=>none
def ix (gd:List PyData) (ms:List PM) (n:Nat) (b:XS):Fn where
 ms:=ms
 F:=fun ds=>if ds.length=ms.length then match dS gd b (ax ms ds n) with
   | some (.rt rv env)=>match rv.pr,jw ms env with | some pr,some outs=>some (pr,outs) | _,_=>none
   | some (.nx env)=>match jw ms env with | some outs=>some (.dat .none,outs) | none=>none
   | _=>none
  else none
end L2
end
section
namespace L2
open PySem
theorem aY.rf (H:Hp):aY H H:=fun _ _ h=>h
theorem aY.nw {H:Hp} {a:Addr} (o:HO) (h:H a=none):aY H (upd H a o):=fun b u q=>by rw [aA (bf q h)];exact q
section
variable {K:Fg} {F F' I I' F0:Addr->Prop} {H H' H₀:Hp} {env env':En} {σ σ':St} {ga:Nat->V} {gd:List PyData}
def fj (K:Fg) (F0:Addr->Prop) (H₀:Hp) (I:Addr->Prop) (env:En) (σ:St) (H:Hp):RV->V->Prop
 | .dat d,v=>Dm K (FF F0 env σ) H d v
 | .bor i,v=>σ[i]?=some (some v)
 | .frs d,v=>∃ a,v=.ref a/\Rel K (fun b=>F0 b\/b=a) H₀ I env σ H/\Top K (fun b=>FF F0 env σ b\/b=a) H d a/\(H₀ a=none\/I a)/\¬FF F0 env σ a/\(∀ (i:Nat) (d':PyData),env[i]?=some (.ino d')->σ[i]?≠some (some (.ref a))) /\
   ∀ (i:Nat) (d':PyData),env[i]?=some (.ro d')->∃ b,σ[i]?=some (some (.ref b))/\fZ K (fun b=>FF F0 env σ b\/b=a) (fun b=>IA env σ b\/b=a) H d' b
def wY (K:Fg) (F0:Addr->Prop) (env:En) (σ:St) (H:Hp):AV->V->Prop
 | .dat d,v=>Dm K (FF F0 env σ) H d v
 | .bor i,v=>σ[i]?=some (some v)
def iF (K:Fg) (F0:Addr->Prop) (env:En) (σ:St) (H:Hp):List AV->List V->Prop
 | [],vs=>vs=[]
 | a :: as,vs=>∃ v r,vs=v :: r/\wY K F0 env σ H a v/\iF K F0 env σ H as r
theorem fj.av {rv:RV} {v:V} (h:fj K F0 H₀ I env σ H rv v):wY K F0 env σ H rv.av v:=by
 cases rv with
 | dat d=>exact h
 | bor i=>exact h
 | frs d =>
  obtain ⟨a,e,R,t,_,n,_⟩:=h;subst e;exact (t.pr Pr.refl (F':=FF F0 env σ) (fun _ z=>.inl z) (fun _ z=>z)).dm n
theorem wY.keep (R:Rel K F0 H₀ I env σ H) (S:Rel K F0 H (IA env σ) env' σ H') (k:KpE env env') {a:AV} {v:V} (h:wY K F0 env σ H a v):wY K F0 env' σ H' a v:=by
 cases a with
 | dat d=>exact R.pN S k h
 | bor i=>exact h
theorem Rel.EJ (R:Rel K F0 H₀ I env σ H) {i:Nat} {d:PyData} {v:V} (h:cont env i=some d) (s:σ[i]?=some (some v)):Vw K (FF F0 env σ) H d v:=by
 unfold cont at h;cases e:env[i]? with
 | none=>rw [e] at h;cases h
 | some sl =>
  rw [e] at h;cases sl with
  | un=>cases h
  | dat _=>cases h
  | own d' =>
   cases h;obtain ⟨a,q,_,_,t⟩:=R.own i d e;rw [s] at q;cases q;exact t.r.vw
  | ino d' =>
   cases h;obtain ⟨a,q,_,_,t⟩:=R.ino i d e;rw [s] at q;cases q;exact t.r.vw
  | ro d' =>
   cases h;obtain ⟨a,q,t⟩:=R.ro i d e;rw [s] at q;cases q;exact t.r.vw
theorem Rel.dQ (R:Rel K F0 H₀ I env σ H) {i:Nat} {d:PyData} (h:bp env i=some d):mu env i/\∃ a,σ[i]?=some (some (.ref a))/\FF F0 env σ a/\Top K (FF F0 env σ) H d a:=by
 unfold bp at h;cases e:env[i]? with
 | none=>rw [e] at h;cases h
 | some sl =>
  rw [e] at h;cases sl with
  | un=>cases h
  | dat _=>cases h
  | own d' =>
   cases h;obtain ⟨a,q,_,_,t⟩:=R.own i d e;exact ⟨⟨d,.inl e⟩,a,q,.inr ⟨i,d,e,q⟩,t⟩
  | ino d' =>
   cases h;obtain ⟨a,q,f,_,t⟩:=R.ino i d e;exact ⟨⟨d,.inr e⟩,a,q,.inl f,t⟩
  | ro d'=>cases h
theorem wY.vw (R:Rel K F0 H₀ I env σ H) {a:AV} {v:V} {d:PyData} (h:wY K F0 env σ H a v) (e:a.view env=some d):Vw K (FF F0 env σ) H d v:=by
 cases a with
 | dat d'=>cases e;exact Dm.vw h
 | bor i=>exact R.EJ e h
theorem iF.vw (R:Rel K F0 H₀ I env σ H):∀ {as:List AV} {vs:List V} {ds:List PyData},iF K F0 env σ H as vs->cn env as=some ds->VwL K (FF F0 env σ) H ds vs
 | [],_,ds,h,e=>by cases e;exact h
 | a :: as,_,ds,h,e=>by
  obtain ⟨v,r,rfl,h1,h2⟩:=h;unfold cn at e;cases e1:a.view env with
  | none=>rw [e1] at e;cases e
  | some d =>
   cases e2:cn env as with
   | none=>rw [e1,e2] at e;cases e
   | some ds' =>
    rw [e1,e2] at e;cases e;exact ⟨v,r,rfl,h1.vw R e1,iF.vw R h2 e2⟩
theorem iF.mv (R:Rel K F0 H₀ I env σ H):∀ {as:List AV} {vs:List V} {ds:List (Bool×PyData)},iF K F0 env σ H as vs->gN env as=some ds->MvL K (FF F0 env σ) H ds vs
 | [],_,ds,h,e=>by cases e;exact h
 | a :: as,_,ds,h,e=>by
  obtain ⟨v,r,rfl,h1,h2⟩:=h;unfold gN at e;cases e1:a.view env with
  | none=>rw [e1] at e;cases e
  | some d =>
   cases e2:gN env as with
   | none=>rw [e1,e2] at e;cases e
   | some ds' =>
    rw [e1,e2] at e;cases e;have ih:=iF.mv R h2 e2;cases a with
    | dat d'=>cases e1;exact ⟨v,r,rfl,h1,ih⟩
    | bor i=>exact ⟨v,r,rfl,h1.vw R e1,ih⟩
theorem iF.Ej:∀ {as:List AV} {vs:List V} {ds:List PyData},iF K F0 env σ H as vs->m4 as=some ds->DmL K (FF F0 env σ) H ds vs
 | [],_,ds,h,e=>by cases e;exact h
 | .dat d :: as,_,ds,h,e=>by
  obtain ⟨v,r,rfl,h1,h2⟩:=h;unfold m4 at e;cases e2:m4 as with
  | none=>rw [e2] at e;cases e
  | some ds' =>
   rw [e2] at e;cases e;exact ⟨v,r,rfl,h1,iF.Ej h2 e2⟩
 | .bor i :: as,_,ds,h,e=>by unfold m4 at e;cases e
theorem fZ.xM {d:PyData} {a c:Addr} (hc:H c=none) (h:fZ K F I H d a):fZ K F (fun b=>I b\/b=c) H d a:=by
 cases d with
 | list ds=>obtain ⟨xs,e,z,r⟩:=h;exact ⟨xs,e.fresh hc,z,r⟩
 | dict ds =>
  obtain ⟨ep,xs,n,e,z,r⟩:=h;exact ⟨ep,xs,fun q=>q.elim n fun q=>(by subst q;rw [hc] at e;cases e),e,z,r⟩
 | _=>exact absurd h id
theorem Rel.mF (R:Rel K F0 H₀ I env σ H) (s:aY H H') {pr:PR} {v:V} (h:xQ K (FF F0 env σ) H H' pr v):fj K F0 H₀ I env σ H' pr.rv v:=by
 cases pr with
 | dat d=>exact h
 | frs d =>
  obtain ⟨a,e,hn,t⟩:=h;refine ⟨a,e,R.fresh hn s ?_,t,R.oi (.inl hn),fun z=>R.fm z hn,fun i d' e' q=>?_,fun i d' e'=>?_⟩
  ·obtain ⟨o,q,_⟩:=t.wr;rw [q];exact nofun
  ·obtain ⟨o,z,_⟩:=R.iaT ⟨i,⟨d',.inr e'⟩,q⟩;rw [hn] at z;cases z
  ·obtain ⟨b,q,t'⟩:=R.ro i d' e';exact ⟨b,q,((t'.fresh hn).xM hn).pr (Pr.of_same s) (fun _ z=>z) (fun _ z=>z) fun b o z _=>s _ _ z⟩
theorem se (env:En) (i:Nat) (d:PyData):KpE env (iR env i d):=by
 unfold iR;cases e:env[i]? with
 | none=>exact KpE.refl _
 | some sl =>
  have hi:i < env.length:=(Ie.mp e).1;cases sl with
  | un=>exact KpE.refl _
  | dat _=>exact KpE.refl _
  | ro _=>exact KpE.refl _
  | own d' =>
   refine ⟨IW,fun j s h=>?_⟩;by_cases z:i=j
   ·subst z;rw [e] at h;cases h;exact ⟨.own d,by rw [Ir hi],.inl ⟨d,rfl⟩⟩
   ·exact ⟨s,by rw [Ih z];exact h,.refl s⟩
  | ino d' =>
   refine ⟨IW,fun j s h=>?_⟩;by_cases z:i=j
   ·subst z;rw [e] at h;cases h;exact ⟨.ino d,by rw [Ir hi],⟨d,rfl⟩⟩
   ·exact ⟨s,by rw [Ih z];exact h,.refl s⟩
def SmK (env env':En):Prop:=env'.length=env.length/\∀ i:Nat,env'[i]?=env[i]?\/(∃ d d',env[i]?=some (.own d)/\env'[i]?=some (.own d'))\/∃ d d',env[i]?=some (.ino d)/\env'[i]?=some (.ino d')
theorem SmK.refl (env:En):SmK env env:=⟨rfl,fun _=>.inl rfl⟩
theorem SmK.trans {e1 e2 e3:En} (a:SmK e1 e2) (b:SmK e2 e3):SmK e1 e3:=⟨b.1.trans a.1,fun i=>by
 rcases b.2 i with h | ⟨d,d',h,h'⟩ | ⟨d,d',h,h'⟩
 ·rw [h];exact a.2 i
 ·rcases a.2 i with q | ⟨c,c',q,q'⟩ | ⟨c,c',q,q'⟩
  ·exact .inr (.inl ⟨d,d',by rw [<- q];exact h,h'⟩)
  ·exact .inr (.inl ⟨c,d',q,h'⟩)
  ·rw [h] at q';cases q'
 ·rcases a.2 i with q | ⟨c,c',q,q'⟩ | ⟨c,c',q,q'⟩
  ·exact .inr (.inr ⟨d,d',by rw [<- q];exact h,h'⟩)
  ·rw [h] at q';cases q'
  ·exact .inr (.inr ⟨c,d',q,h'⟩)⟩
theorem SmK.kp (k:SmK env env'):KpE env env':=⟨k.1,fun i s e=>by
 rcases k.2 i with h | ⟨d,d',h,h'⟩ | ⟨d,d',h,h'⟩
 ·exact ⟨s,by rw [h];exact e,.refl s⟩
 ·rw [e] at h;cases h;exact ⟨_,h',.inl ⟨d',rfl⟩⟩
 ·rw [e] at h;cases h;exact ⟨_,h',⟨d',rfl⟩⟩⟩
theorem SmK.symm (k:SmK env env'):SmK env' env:=⟨k.1.symm,fun i=>by
 rcases k.2 i with h | ⟨d,d',h,h'⟩ | ⟨d,d',h,h'⟩
 ·exact .inl h.symm
 ·exact .inr (.inl ⟨d',d,h',h⟩)
 ·exact .inr (.inr ⟨d',d,h',h⟩)⟩
theorem SmK.ff (k:SmK env env'):FF F0 env' σ=FF F0 env σ:=by
 funext b;exact propext ⟨fun h=>k.kp.ff h,fun h=>k.symm.kp.ff h⟩
theorem SmK.ia (k:SmK env env'):IA env' σ=IA env σ:=by
 funext b;exact propext ⟨fun h=>k.kp.ia h,fun h=>k.symm.kp.ia h⟩
theorem fb (env:En) (i:Nat) (d:PyData):SmK env (iR env i d):=by
 unfold iR;cases e:env[i]? with
 | none=>exact SmK.refl _
 | some sl =>
  have hi:i < env.length:=(Ie.mp e).1;cases sl with
  | un=>exact SmK.refl _
  | dat _=>exact SmK.refl _
  | ro _=>exact SmK.refl _
  | own d' =>
   refine ⟨IW,fun j=>?_⟩;by_cases z:i=j
   ·subst z;exact .inr (.inl ⟨d',d,e,by rw [Ir hi]⟩)
   ·exact .inl (by rw [Ih z])
  | ino d' =>
   refine ⟨IW,fun j=>?_⟩;by_cases z:i=j
   ·subst z;exact .inr (.inr ⟨d',d,e,by rw [Ir hi]⟩)
   ·exact .inl (by rw [Ih z])
theorem kM {env:En} {i:Nat} {d:PyData} (h:mu env i):bp (iR env i d) i=some d:=by
 unfold iR bp;obtain ⟨d',e | e⟩:=h
 ·have hi:i < env.length:=(Ie.mp e).1;rw [e];simp only;rw [Ir hi]
 ·have hi:i < env.length:=(Ie.mp e).1;rw [e];simp only;rw [Ir hi]
theorem lh {env:En} {i j:Nat} {d:PyData} (h:j≠i):(iR env i d)[j]?=env[j]?:=by
 unfold iR;split <;> first | rfl | rw [Ih (Ne.symm h)]
theorem o8 {env:En} {i:Nat} {d:PyData} (h:bp env i=some d):env[i]?=some (.own d)\/env[i]?=some (.ino d):=by
 unfold bp at h;split at h
 ·rename_i e;cases h;exact .inl e
 ·rename_i e;cases h;exact .inr e
 ·cases h
theorem Rel.chg (R:Rel K F0 H₀ I env σ H) (k:SmK env env') (hk:∀ b o,H b=some o->¬IA env σ b->H' b=some o) (ht:∀ i d a,bp env' i=some d->σ[i]?=some (some (.ref a))->Top K (FF F0 env σ) H' d a):Rel K F0 H₀ I env' σ H':=by
 have p:=R.pL hk;have eF:=k.ff (F0:=F0) (σ:=σ);have eI:=k.ia (σ:=σ);have mc:∀ {i:Nat} {d:PyData},env'[i]?=some (.own d)\/env'[i]?=some (.ino d)->bp env' i=some d:=fun {i d} h=>by
  unfold bp;rcases h with h | h <;> rw [h]
 refine ⟨k.1.trans R.len,fun i d e=>?_,fun i d e=>?_,fun i d e=>?_,fun i d e=>?_,fun i j a h1 h2 h3 h4=>R.sep i j a (k.kp.mu h1) (k.kp.mu h2) h3 h4,fun b h=>?_,fun b o h n=>?_⟩
 ·rcases k.2 i with q | ⟨c,c',q,q'⟩ | ⟨c,c',q,q'⟩
  ·rw [e] at q;obtain ⟨v,s,r⟩:=R.dat i d q.symm;rw [eF];exact ⟨v,s,r.pr p fun _ z=>z⟩
  ·rw [e] at q';cases q'
  ·rw [e] at q';cases q'
 ·have hm:=mc (.inl e);obtain ⟨d0,e0⟩:=k.kp.own e;obtain ⟨a,s,n,w,_⟩:=R.own i d0 e0;rw [eF];exact ⟨a,s,n,w,ht i d a hm s⟩
 ·have hm:=mc (.inr e);have:∃ d0,env[i]?=some (.ino d0):=by
   rcases k.2 i with q | ⟨c,c',q,q'⟩ | ⟨c,c',q,q'⟩
   ·exact ⟨d,by rw [<- q];exact e⟩
   ·rw [e] at q';cases q'
   ·exact ⟨c,q⟩
  obtain ⟨d0,e0⟩:=this;obtain ⟨a,s,n,w,_⟩:=R.ino i d0 e0;rw [eF];exact ⟨a,s,n,w,ht i d a hm s⟩
 ·have e0:env[i]?=some (.ro d):=by
   rcases k.2 i with q | ⟨c,c',q,q'⟩ | ⟨c,c',q,q'⟩
   ·rw [<- q];exact e
   ·rw [e] at q';cases q'
   ·rw [e] at q';cases q'
  obtain ⟨a,s,t⟩:=R.ro i d e0;rw [eF,eI];exact ⟨a,s,t.pr p (fun _ z=>z) (fun _ z=>z) hk⟩
 ·by_cases z:IA env σ b
  ·obtain ⟨i,m,s⟩:=z;have m':=k.symm.kp.mu m;obtain ⟨d,m'⟩:=m';obtain ⟨o,q,_⟩:=(ht i d b (mc m') s).wr;rw [q];exact nofun
  ·cases e:H b with
   | none=>exact absurd e (R.dom b h)
   | some o=>rw [hk b o e z];exact nofun
 ·refine hk b o (R.dX b o h n) fun z=>?_;rcases R.iaI z with q | q
  ·rw [h] at q;cases q
  ·exact n q
end
end L2
end
section
namespace L2
open PySem
section
variable {K:Fg} {F F' I I' F0:Addr->Prop} {H H' H₀:Hp} {env env':En} {σ σ':St} {ga:Nat->V} {gd:List PyData}
theorem get_set {α:Type} {l:List α} {i j:Nat} {x y:α} (h:(l.set i x)[j]?=some y):(i=j/\x=y)\/(i≠j/\l[j]?=some y):=by
 by_cases z:i=j
 ·subst z;by_cases hi:i < l.length
  ·rw [Ir hi] at h;exact .inl ⟨rfl,Jk h⟩
  ·rw [List.getElem?_eq_none (by rw [IW];omega)] at h;cases h
 ·rw [Ih z] at h;exact .inr ⟨z,h⟩
theorem Rel.sub (R:Rel K F0 H₀ I env σ H) (i:Nat) (x:Option V):(∀ b,FF F0 (env.set i .un) (σ.set i x) b->FF F0 env σ b)/\(∀ b,IA (env.set i .un) (σ.set i x) b->IA env σ b):=by
 constructor
 ·rintro b (h | ⟨j,d,e,s⟩)
  ·exact .inl h
  ·rcases get_set e with ⟨_,z⟩ | ⟨n,e⟩
   ·cases z
   ·rw [Ih n] at s;exact .inr ⟨j,d,e,s⟩
 ·rintro b ⟨j,⟨d,e⟩,s⟩;have:∃ d,(env[j]?=some (.own d)\/env[j]?=some (.ino d))/\i≠j:=by
   rcases e with e | e
   ·rcases get_set e with ⟨_,z⟩ | ⟨n,e⟩
    ·cases z
    ·exact ⟨d,.inl e,n⟩
   ·rcases get_set e with ⟨_,z⟩ | ⟨n,e⟩
    ·cases z
    ·exact ⟨d,.inr e,n⟩
  obtain ⟨d,e,n⟩:=this;rw [Ih n] at s;exact ⟨j,⟨d,e⟩,s⟩
theorem Rel.forget (R:Rel K F0 H₀ I env σ H) (i:Nat) (x:Option V):Rel K F0 H₀ I (env.set i .un) (σ.set i x) H:=by
 obtain ⟨hf,hi⟩:=R.sub i x;have mm:∀ j,mu (env.set i .un) j->mu env j/\i≠j:=fun j h=>by
  obtain ⟨d,e | e⟩:=h
  ·rcases get_set e with ⟨_,z⟩ | ⟨n,e⟩
   ·cases z
   ·exact ⟨⟨d,.inl e⟩,n⟩
  ·rcases get_set e with ⟨_,z⟩ | ⟨n,e⟩
   ·cases z
   ·exact ⟨⟨d,.inr e⟩,n⟩
 refine ⟨by rw [IW,IW];exact R.len,fun j d e=>?_,fun j d e=>?_,fun j d e=>?_,fun j d e=>?_,fun j k a h1 h2 h3 h4=>?_,R.dom,R.dX⟩
 ·rcases get_set e with ⟨_,z⟩ | ⟨n,e⟩
  ·cases z
  obtain ⟨v,s,r⟩:=R.dat j d e;exact ⟨v,by rw [Ih n];exact s,r.mono hf⟩
 ·rcases get_set e with ⟨_,z⟩ | ⟨n,e⟩
  ·cases z
  obtain ⟨a,s,q,w,t⟩:=R.own j d e;exact ⟨a,by rw [Ih n];exact s,q,w,t.pr Pr.refl hf fun _ z=>z⟩
 ·rcases get_set e with ⟨_,z⟩ | ⟨n,e⟩
  ·cases z
  obtain ⟨a,s,q,w,t⟩:=R.ino j d e;exact ⟨a,by rw [Ih n];exact s,q,w,t.pr Pr.refl hf fun _ z=>z⟩
 ·rcases get_set e with ⟨_,z⟩ | ⟨n,e⟩
  ·cases z
  obtain ⟨a,s,t⟩:=R.ro j d e;exact ⟨a,by rw [Ih n];exact s,t.pr Pr.refl hf hi fun _ _ z _=>z⟩
 ·obtain ⟨m1,n1⟩:=mm j h1;obtain ⟨m2,n2⟩:=mm k h2;rw [Ih n1] at h3;rw [Ih n2] at h4;exact R.sep j k a m1 m2 h3 h4
theorem ku {i:Nat} {s:Sl} {x:Option V} (hu:env[i]?=some .un) (hs:∀ d,s≠.own d):FF F0 (env.set i s) (σ.set i x)=FF F0 env σ:=by
 funext b;apply propext;constructor
 ·rintro (h | ⟨j,d,e,q⟩)
  ·exact .inl h
  ·rcases get_set e with ⟨_,z⟩ | ⟨n,e⟩
   ·exact absurd z (hs d)
   ·rw [Ih n] at q;exact .inr ⟨j,d,e,q⟩
 ·rintro (h | ⟨j,d,e,q⟩)
  ·exact .inl h
  ·have n:i≠j:=fun z=>by subst z;rw [hu] at e;cases e
   exact .inr ⟨j,d,by rw [Ih n];exact e,by rw [Ih n];exact q⟩
theorem rm {i:Nat} {s:Sl} {x:Option V} (hu:env[i]?=some .un) (hs:∀ d,s≠.own d/\s≠.ino d):IA (env.set i s) (σ.set i x)=IA env σ:=by
 funext b;apply propext;constructor
 ·rintro ⟨j,⟨d,e | e⟩,q⟩
  ·rcases get_set e with ⟨_,z⟩ | ⟨n,e⟩
   ·exact absurd z (hs d).1
   ·rw [Ih n] at q;exact ⟨j,⟨d,.inl e⟩,q⟩
  ·rcases get_set e with ⟨_,z⟩ | ⟨n,e⟩
   ·exact absurd z (hs d).2
   ·rw [Ih n] at q;exact ⟨j,⟨d,.inr e⟩,q⟩
 ·rintro ⟨j,⟨d,e⟩,q⟩;have n:i≠j:=fun z=>by subst z;rw [hu] at e;rcases e with e | e <;> cases e
  refine ⟨j,⟨d,?_⟩,by rw [Ih n];exact q⟩;rw [Ih n];exact e
theorem Rel.putD (R:Rel K F0 H₀ I env σ H) {i:Nat} {d:PyData} {v:V} (hu:env[i]?=some .un) (h:Dm K (FF F0 env σ) H d v):Rel K F0 H₀ I (env.set i (.dat d)) (σ.set i (some v)) H:=by
 have hi:i < env.length:=(Ie.mp hu).1;have eF:FF F0 (env.set i (.dat d)) (σ.set i (some v))=FF F0 env σ:=ku hu (fun _=>nofun);have eI:IA (env.set i (.dat d)) (σ.set i (some v))=IA env σ:=rm hu (fun _=>⟨nofun,nofun⟩);have mm:∀ j,mu (env.set i (.dat d)) j->mu env j/\i≠j:=fun j h=>by
  obtain ⟨c,e | e⟩:=h
  ·rcases get_set e with ⟨_,z⟩ | ⟨n,e⟩
   ·cases z
   ·exact ⟨⟨c,.inl e⟩,n⟩
  ·rcases get_set e with ⟨_,z⟩ | ⟨n,e⟩
   ·cases z
   ·exact ⟨⟨c,.inr e⟩,n⟩
 refine ⟨by rw [IW,IW];exact R.len,fun j c e=>?_,fun j c e=>?_,fun j c e=>?_,fun j c e=>?_,fun j k a h1 h2 h3 h4=>?_,R.dom,R.dX⟩
 ·rw [eF];rcases get_set e with ⟨z,y⟩ | ⟨n,e⟩
  ·subst z;cases y;exact ⟨v,Ir (by rw [<- R.len];exact hi),h⟩
  obtain ⟨w,s,r⟩:=R.dat j c e;exact ⟨w,by rw [Ih n];exact s,r⟩
 ·rw [eF];rcases get_set e with ⟨_,z⟩ | ⟨n,e⟩
  ·cases z
  obtain ⟨a,s,q,w,t⟩:=R.own j c e;exact ⟨a,by rw [Ih n];exact s,q,w,t⟩
 ·rw [eF];rcases get_set e with ⟨_,z⟩ | ⟨n,e⟩
  ·cases z
  obtain ⟨a,s,q,w,t⟩:=R.ino j c e;exact ⟨a,by rw [Ih n];exact s,q,w,t⟩
 ·rw [eF,eI];rcases get_set e with ⟨_,z⟩ | ⟨n,e⟩
  ·cases z
  obtain ⟨a,s,t⟩:=R.ro j c e;exact ⟨a,by rw [Ih n];exact s,t⟩
 ·obtain ⟨m1,n1⟩:=mm j h1;obtain ⟨m2,n2⟩:=mm k h2;rw [Ih n1] at h3;rw [Ih n2] at h4;exact R.sep j k a m1 m2 h3 h4
theorem Rel.Gx {i:Nat} {d:PyData} {a:Addr} (hu:env[i]?=some .un) (h:fj K F0 H₀ I env σ H (.frs d) (.ref a)):Rel K F0 H₀ I (env.set i (.own d)) (σ.set i (some (.ref a))) H:=by
 obtain ⟨a',ea,R,t,w,nF,hino,hro⟩:=h;cases ea;have hi:i < env.length:=(Ie.mp hu).1;have his:i < σ.length:=by rw [<- R.len];exact hi
 have eF:FF F0 (env.set i (.own d)) (σ.set i (some (.ref a)))=fun b=>FF F0 env σ b\/b=a:=by
  funext b;apply propext;constructor
  ·rintro (h | ⟨j,c,e,q⟩)
   ·exact .inl (.inl h)
   ·rcases get_set e with ⟨z,y⟩ | ⟨n,e⟩
    ·subst z;rw [Ir his] at q;cases q;exact .inr rfl
    ·rw [Ih n] at q;exact .inl (.inr ⟨j,c,e,q⟩)
  ·rintro ((h | ⟨j,c,e,q⟩) | rfl)
   ·exact .inl h
   ·have n:i≠j:=fun z=>by subst z;rw [hu] at e;cases e
    exact .inr ⟨j,c,by rw [Ih n];exact e,by rw [Ih n];exact q⟩
   ·exact .inr ⟨i,d,Ir hi,Ir his⟩
 have eF2:FF (fun b=>F0 b\/b=a) env σ=fun b=>FF F0 env σ b\/b=a:=gh;have mm:∀ j,mu (env.set i (.own d)) j->i=j\/(mu env j/\i≠j):=fun j h=>by
  obtain ⟨c,e | e⟩:=h
  ·rcases get_set e with ⟨z,_⟩ | ⟨n,e⟩
   ·exact .inl z
   ·exact .inr ⟨⟨c,.inl e⟩,n⟩
  ·rcases get_set e with ⟨z,_⟩ | ⟨n,e⟩
   ·exact .inl z
   ·exact .inr ⟨⟨c,.inr e⟩,n⟩
 have eI:∀ b,IA (env.set i (.own d)) (σ.set i (some (.ref a))) b->IA env σ b\/b=a:=by
  rintro b ⟨j,m,q⟩;rcases mm j m with z | ⟨m',n⟩
  ·subst z;rw [Ir his] at q;cases q;exact .inr rfl
  ·rw [Ih n] at q;exact .inl ⟨j,m',q⟩
 have na:∀ j,mu env j->σ[j]?≠some (some (.ref a)):=fun j m q=>by
  obtain ⟨c,e | e⟩:=m
  ·exact nF (.inr ⟨j,c,e,q⟩)
  ·exact hino j c e q
 refine ⟨by rw [IW,IW];exact R.len,fun j c e=>?_,fun j c e=>?_,fun j c e=>?_,fun j c e=>?_,fun j k b h1 h2 h3 h4=>?_,fun b h=>R.dom b (.inl h),R.dX⟩
 ·rw [eF];rcases get_set e with ⟨_,z⟩ | ⟨n,e⟩
  ·cases z
  obtain ⟨x,s,r⟩:=R.dat j c e;rw [eF2] at r;exact ⟨x,by rw [Ih n];exact s,r⟩
 ·rw [eF];rcases get_set e with ⟨z,y⟩ | ⟨n,e⟩
  ·subst z;cases y;exact ⟨a,Ir his,fun z=>nF (.inl z),w,t⟩
  obtain ⟨b,s,q,w',t'⟩:=R.own j c e;rw [eF2] at t';exact ⟨b,by rw [Ih n];exact s,fun z=>q (.inl z),w',t'⟩
 ·rw [eF];rcases get_set e with ⟨_,z⟩ | ⟨n,e⟩
  ·cases z
  obtain ⟨b,s,q,w',t'⟩:=R.ino j c e;rw [eF2] at t';refine ⟨b,by rw [Ih n];exact s,?_,w',t'⟩;rcases q with q | q
  ·exact q
  ·subst q;exact absurd s (hino j c e)
 ·rw [eF];rcases get_set e with ⟨_,z⟩ | ⟨n,e⟩
  ·cases z
  obtain ⟨b,s,t'⟩:=hro j c e;exact ⟨b,by rw [Ih n];exact s,t'.pr Pr.refl (fun _ z=>z) eI fun _ _ z _=>z⟩
 ·rcases mm j h1 with z1 | ⟨m1,n1⟩
  ·rcases mm k h2 with z2 | ⟨m2,n2⟩
   ·rw [<- z1,<-z2]
   ·rw [<- z1,Ir his] at h3;cases h3;rw [Ih n2] at h4;exact absurd h4 (na k m2)
  ·rw [Ih n1] at h3;rcases mm k h2 with z2 | ⟨m2,n2⟩
   ·rw [<- z2,Ir his] at h4;cases h4;exact absurd h3 (na j m1)
   ·rw [Ih n2] at h4;exact R.sep j k b m1 m2 h3 h4
theorem Rel.take (R:Rel K F0 H₀ I env σ H) {i:Nat} {d:PyData} (e:env[i]?=some (.own d)):∃ a,σ[i]?=some (some (.ref a))/\fj K F0 H₀ I (env.set i .un) σ H (.frs d) (.ref a):=by
 obtain ⟨a,s,nF0,w,t⟩:=R.own i d e;have hi:i < env.length:=(Ie.mp e).1;have mm:∀ j,mu (env.set i .un) j->mu env j/\i≠j:=fun j h=>by
  obtain ⟨c,e | e⟩:=h
  ·rcases get_set e with ⟨_,z⟩ | ⟨n,e⟩
   ·cases z
   ·exact ⟨⟨c,.inl e⟩,n⟩
  ·rcases get_set e with ⟨_,z⟩ | ⟨n,e⟩
   ·cases z
   ·exact ⟨⟨c,.inr e⟩,n⟩
 have eF:FF F0 env σ=fun b=>FF F0 (env.set i .un) σ b\/b=a:=by
  funext b;apply propext;constructor
  ·rintro (h | ⟨j,c,e',q⟩)
   ·exact .inl (.inl h)
   ·by_cases n:i=j
    ·subst n;rw [s] at q;cases q;exact .inr rfl
    ·exact .inl (.inr ⟨j,c,by rw [Ih n];exact e',q⟩)
  ·rintro ((h | ⟨j,c,e',q⟩) | rfl)
   ·exact .inl h
   ·rcases get_set e' with ⟨_,z⟩ | ⟨n,e'⟩
    ·cases z
    ·exact .inr ⟨j,c,e',q⟩
   ·exact .inr ⟨i,d,e,s⟩
 have eF2:FF (fun b=>F0 b\/b=a) (env.set i .un) σ=FF F0 env σ:=by rw [gh];exact eF.symm
 have na:∀ j,mu (env.set i .un) j->σ[j]?≠some (some (.ref a)):=fun j m q=>by
  obtain ⟨m',n⟩:=mm j m;exact n (R.sep i j a ⟨d,.inl e⟩ m' s q)
 have nF:¬FF F0 (env.set i .un) σ a:=by
  rintro (h | ⟨j,c,e',q⟩)
  ·exact nF0 h
  ·exact na j ⟨c,.inl e'⟩ q
 have ia:∀ b,IA (env.set i .un) σ b->IA env σ b:=fun b ⟨j,m,q⟩=>⟨j,(mm j m).1,q⟩;have ia2:∀ b,(IA (env.set i .un) σ b\/b=a)->IA env σ b:=fun b h=>h.elim (ia b) fun z=>z▸⟨i,⟨d,.inl e⟩,s⟩;have R':Rel K (fun b=>F0 b\/b=a) H₀ I (env.set i .un) σ H:=by
  refine ⟨by rw [IW];exact R.len,fun j c e'=>?_,fun j c e'=>?_,fun j c e'=>?_,fun j c e'=>?_,fun j k b h1 h2 h3 h4=>R.sep j k b (mm j h1).1 (mm k h2).1 h3 h4,fun b h=>?_,R.dX⟩
  ·rw [eF2];rcases get_set e' with ⟨_,z⟩ | ⟨n,e'⟩
   ·cases z
   exact R.dat j c e'
  ·rw [eF2];have m:=e';rcases get_set e' with ⟨_,z⟩ | ⟨n,e'⟩
   ·cases z
   obtain ⟨b,s',q,w',t'⟩:=R.own j c e';exact ⟨b,s',fun z=>z.elim q fun z=>na j ⟨c,.inl m⟩ (z▸s'),w',t'⟩
  ·rw [eF2];rcases get_set e' with ⟨_,z⟩ | ⟨n,e'⟩
   ·cases z
   obtain ⟨b,s',q,w',t'⟩:=R.ino j c e';exact ⟨b,s',.inl q,w',t'⟩
  ·rw [eF2];rcases get_set e' with ⟨_,z⟩ | ⟨n,e'⟩
   ·cases z
   obtain ⟨b,s',t'⟩:=R.ro j c e';exact ⟨b,s',t'.pr Pr.refl (fun _ z=>z) ia fun _ _ z _=>z⟩
  ·rcases h with h | h
   ·exact R.dom b h
   ·obtain ⟨o,q,_⟩:=t.wr;rw [h,q];exact nofun
 refine ⟨a,s,a,rfl,R',by rw [eF] at t;exact t,w,nF,fun j c e'=>na j ⟨c,.inr e'⟩,fun j c e'=>?_⟩;rcases get_set e' with ⟨_,z⟩ | ⟨n,e'⟩
 ·cases z
 obtain ⟨b,s',t'⟩:=R.ro j c e';rw [eF] at t';exact ⟨b,s',t'.pr Pr.refl (fun _ z=>z) ia2 fun _ _ z _=>z⟩
theorem fj.rel {d:PyData} {v:V} (h:fj K F0 H₀ I env σ H (.frs d) v):Rel K F0 H₀ I env σ H:=by
 obtain ⟨a,_,R,_,_,_,hi,_⟩:=h;exact R.less hi
theorem set_same {α:Type} {l:List α} {i:Nat} {x:α} (h:l[i]?=some x):l.set i x=l:=by
 have hi:i < l.length:=(Ie.mp h).1;apply List.ext_getElem?;intro j;by_cases z:i=j
 ·subst z;rw [Ir hi,h]
 ·rw [Ih z]
theorem Rel.mov (R:Rel K F0 H₀ I env σ H) {i:Nat} {d:PyData} (e:env[i]?=some (.own d)):∃ a,σ[i]?=some (some (.ref a))/\Rel K F0 H₀ I (env.set i (.dat d)) σ H/\Dm K (FF F0 (env.set i (.dat d)) σ) H d (.ref a):=by
 have hi:i < env.length:=(Ie.mp e).1;obtain ⟨a,s,h⟩:=R.take e;have R1:=h.rel;have hu:(env.set i .un)[i]?=some .un:=Ir hi;have hd:Dm K (FF F0 (env.set i .un) σ) H d (.ref a):=fj.av h;have R2:=R1.putD hu hd;rw [JH,set_same s] at R2;refine ⟨a,s,R2,?_⟩;have eF:FF F0 (env.set i (.dat d)) σ=FF F0 (env.set i .un) σ:=by
  have:=ku (F0:=F0) (σ:=σ) (s:=.dat d) (x:=some (.ref a)) hu (fun _=>nofun);rw [JH,set_same s] at this;exact this
 rw [eF];exact hd
theorem xA {i:Nat} {s s':Sl} (e:env[i]?=some s) (v:Evo s s'):KpE env (env.set i s'):=by
 have hi:i < env.length:=(Ie.mp e).1;refine ⟨IW,fun j t h=>?_⟩;by_cases z:i=j
 ·subst z;rw [e] at h;cases h;exact ⟨s',Ir hi,v⟩
 ·exact ⟨t,by rw [Ih z];exact h,.refl t⟩
end
end L2
end
section
namespace L2
open PySem
theorem jz (x y:Str):(x++y).cps=x.cps++y.cps:=rfl
theorem mn {x y:Str} (h:PyData.strOk x=true) (q:PyData.strOk y=true):PyData.strOk (x++y)=true:=by
 unfold PyData.strOk at h q ⊢;rw [jz,Array.all_append,h,q];rfl
def SE (K:Fg) (ga:Nat->V) (gd:List PyData) (e:XE):Prop:=∀ (env:En) (rv:RV) (env':En),dE gd e env=some (rv,env')->∀ (F0:Addr->Prop) (H₀:Hp) (I:Addr->Prop) (σ:St) (H:Hp) (Q:VK),Rel K F0 H₀ I env σ H ->
 (∀ v H',Rel K F0 H₀ I env' σ H'->KpE env env'->fj K F0 H₀ I env' σ H' rv v->Q v H')->rE K ga e σ H Q
def SA (K:Fg) (ga:Nat->V) (gd:List PyData) (e:XA):Prop:=∀ (env:En) (rv:List AV) (env':En),dA gd e env=some (rv,env')->∀ (F0:Addr->Prop) (H₀:Hp) (I:Addr->Prop) (σ:St) (H:Hp) (Q:List V->Hp->Prop),Rel K F0 H₀ I env σ H ->
 (∀ v H',Rel K F0 H₀ I env' σ H'->KpE env env'->iF K F0 env' σ H' rv v->Q v H')->rA K ga e σ H Q
def SF (K:Fg) (ga:Nat->V) (gd:List PyData) (e:XA):Prop:=∀ (out:Str) (env:En) (x:Str) (env':En),dF gd e out env=some (x,env')->∀ (F0:Addr->Prop) (H₀:Hp) (I:Addr->Prop) (σ:St) (H:Hp) (Q:VK),Rel K F0 H₀ I env σ H ->
 PyData.strOk out=true->(∀ H',Rel K F0 H₀ I env' σ H'->KpE env env'->x.length<=sizeLine->PyData.strOk x=true->Q (.str x) H')->tFs (rF K ga e) out σ H Q
def By (K:Fg) (F:Addr->Prop) (H:Hp):List (Key×PyData)->List (Key×V)->Prop
 | [],vs=>vs=[]
 | (k,d) :: ds,vs=>∃ v r,vs=(k,v) :: r/\Dm K F H (kD k) (kV k)/\Dm K F H d v/\By K F H ds r
def SPs (K:Fg) (ga:Nat->V) (gd:List PyData) (e:XP):Prop:=∀ (env:En) (kvs:List (Key×PyData)) (env':En),dP gd e env=some (kvs,env')->∀ (F0:Addr->Prop) (H₀:Hp) (I:Addr->Prop) (σ:St) (H:Hp) (Q:List (V×V)->Hp->Prop),Rel K F0 H₀ I env σ H ->
 (∀ vs H',Rel K F0 H₀ I env' σ H'->KpE env env'->By K (FF F0 env' σ) H' kvs vs->Q (vs.map fun kv=>(kV kv.1,kv.2)) H')->pE (rP K ga e) σ H Q
def ST (K:Fg) (ga:Nat->V) (gd:List PyData) (e:XT):Prop:=∀ (env:En) (b:Bool) (env':En),dT gd e env=some (b,env')->∀ (F0:Addr->Prop) (H₀:Hp) (I:Addr->Prop) (σ:St) (H:Hp) (Q:Bool->Hp->Prop),Rel K F0 H₀ I env σ H ->
 (∀ H',Rel K F0 H₀ I env' σ H'->KpE env env'->Q b H')->rT K ga e σ H Q
def ItY (K:Fg) (F:Addr->Prop) (H H' H'':Hp) (d:PyData) (x:V):Prop:=(H''=H'/\Dm K F H d x)\/∃ p u v d1 d2,d=.tuple [d1,d2]/\x=.ref p/\H' p=none/\H''=upd H' p (.tup [u,v])/\Dm K F H d1 u/\Dm K F H d2 v
theorem ItY.dm {K:Fg} {F F2:Addr->Prop} {H H' H'':Hp} {d:PyData} {x:V} (h:ItY K F H H' H'' d x) (T:∀ d v,Dm K F H d v->Dm K F2 H' d v):aY H' H''/\Dm K F2 H'' d x:=by
 rcases h with ⟨rfl,h⟩ | ⟨p,u,v,d1,d2,rfl,rfl,hp,rfl,h1,h2⟩
 ·exact ⟨fun _ _ e=>e,T _ _ h⟩
 ·have sm:aY H' (upd H' p (.tup [u,v])):=fun b o e=>by rw [aA (fun z=>by rw [z,hp] at e;cases e)];exact e
  refine ⟨sm,p,[u,v],rfl,SqT.of aF,Nat.le_of_ble_eq_true rfl,u,_,rfl,?_,v,_,rfl,?_,rfl⟩
  ·exact (T _ _ h1).pr (fun b o e _=>sm b o e) fun _ z=>z
  ·exact (T _ _ h2).pr (fun b o e _=>sm b o e) fun _ z=>z
def wd (K:Fg) (F I:Addr->Prop) (H:Hp) (J:It) (ds:List PyData):Prop:=ds.length<=sizeLine/\∀ H',(∀ b o,H b=some o->¬I b->H' b=some o)->∀ k,(k < ds.length->J.go k H'/\∀ x H'',J.yld k H' x H''->∃ d,ds[k]?=some d/\ItY K F H H' H'' d x)/\(ds.length<=k->J.stop k H')
theorem i8 {K:Fg} {F I:Addr->Prop} {H:Hp} {J:It} {ds:List PyData} {vs:List V} (hd:DmL K F H ds vs) (hl:vs.length<=sizeLine) (h:∀ H',(∀ b o,H b=some o->¬I b->H' b=some o)->∀ k,(k < vs.length->J.go k H'/\∀ x H'',J.yld k H' x H''->H''=H'/\vs[k]?=some x)/\(vs.length<=k->J.stop k H')):wd K F I H J ds:=by
 have e:=hd.len;refine ⟨by omega,fun H' k j=>⟨fun hj=>?_,fun hj=>((h H' k j).2 (by omega))⟩⟩;obtain ⟨g,y⟩:=(h H' k j).1 (by omega);refine ⟨g,fun x H'' hx=>?_⟩;obtain ⟨e0,hx2⟩:=y x H'' hx;obtain ⟨d,h1,h2⟩:=hd.get' hx2;exact ⟨d,h1,.inl ⟨e0,h2⟩⟩
def SI (K:Fg) (ga:Nat->V) (gd:List PyData) (e:XI):Prop:=∀ (env:En) (ds:List PyData) (lock:Option Nat) (env':En),dI gd e env=some (ds,lock,env')->∀ (F0:Addr->Prop) (H₀:Hp) (I:Addr->Prop) (σ:St) (H:Hp) (R:It->Hp->Prop),Rel K F0 H₀ I env σ H ->
 (∀ J H',Rel K F0 H₀ I env' σ H'->KpE env env'->(∀ i,lock=some i->∃ d,cont env' i=some d)->wd K (FF F0 env' σ) (fun b=>IA env' σ b/\∀ i,lock=some i->mu env' i->σ[i]?≠some (some (.ref b))) H' J ds->R J H')->rI_ K ga e σ H R
section
variable {K:Fg} {F F' I I' F0:Addr->Prop} {H H' H₀:Hp} {env env':En} {σ σ':St} {ga:Nat->V} {gd:List PyData}
theorem Gd (i:Nat):SE K ga gd (.var i):=by
 intro env rv env' h F0 H₀ I σ H Q R q;simp only [dE] at h;split at h
 ·rename_i d e;cases h;obtain ⟨v,s,r⟩:=R.dat i d e;exact ⟨v,s,q v H R (KpE.refl _) r⟩
 ·rename_i d e;cases h;obtain ⟨a,s,_⟩:=R.own i d e;exact ⟨_,s,q _ H R (KpE.refl _) s⟩
 ·rename_i d e;cases h;obtain ⟨a,s,_⟩:=R.ino i d e;exact ⟨_,s,q _ H R (KpE.refl _) s⟩
 ·rename_i d e;cases h;obtain ⟨a,s,_⟩:=R.ro i d e;exact ⟨_,s,q _ H R (KpE.refl _) s⟩
 ·cases h
theorem Gi (i:Nat):SE K ga gd (.mov i):=by
 intro env rv env' h F0 H₀ I σ H Q R q;simp only [dE] at h;split at h
 ·rename_i d e;cases h;obtain ⟨a,s,R',r⟩:=R.mov e;exact ⟨_,s,q _ H R' (xA e (.inr (.inl ⟨d,rfl⟩))) r⟩
 ·cases h
theorem Fj (i:Nat):SE K ga gd (.tke i):=by
 intro env rv env' h F0 H₀ I σ H Q R q;simp only [dE] at h;split at h
 ·rename_i d e;cases h;obtain ⟨a,s,r⟩:=R.take e;exact ⟨_,s,q _ H r.rel (xA e (.inr (.inr rfl))) r⟩
 ·cases h
theorem E3 (c:Cst):SE K ga gd (.cst c):=by
 intro env rv env' h F0 H₀ I σ H Q R q;simp only [dE] at h;cases h;exact q _ H R (KpE.refl _) (c.ok _ _ _)
theorem DT (hg:∀ g d,gd[g]?=some d->∀ F H,Dm K F H d (ga g)) (g:Nat):SE K ga gd (.glb g):=by
 intro env rv env' h F0 H₀ I σ H Q R q;simp only [dE] at h;split at h
 ·rename_i d e;cases h;exact q _ H R (KpE.refl _) (hg g d e _ _)
 ·cases h
theorem Ey {p:Prm} {as:XA} (ih:SA K ga gd as):SE K ga gd (.prm p as):=by
 intro env rv env' h F0 H₀ I σ H Q R q;simp only [dE] at h;split at h
 ·rename_i avs e1 h1;split at h
  ·rename_i ds h2;split at h
   ·rename_i pr h3;cases h;refine ih _ _ _ h1 F0 H₀ I σ H _ R fun vs H1 R1 k1 a1=>?_;refine p.ok K _ H1 ds vs pr Q h3 (a1.vw R1 h2) (fun b z=>R1.fm z) fun v H2 s2 hp=>?_;exact q v H2 (R1.same s2) k1 (R1.mF s2 hp)
   ·cases h
  ·cases h
 ·cases h
theorem EY {m:Mtd} {o:XE} {as:XA} (io:SE K ga gd o) (ih:SA K ga gd as):SE K ga gd (.met m o as):=by
 intro env rv env' h F0 H₀ I σ H Q R q;simp only [dE] at h;split at h
 ·rename_i rv0 e1 h1;split at h
  ·rename_i d0 h2;split at h
   ·rename_i hty;split at h
    ·rename_i avs e2 h3;split at h
     ·rename_i d ds h4 h5;split at h
      ·rename_i pr h6;cases h;refine io _ _ _ h1 F0 H₀ I σ H _ R fun v H1 R1 k1 a1=>?_;refine ⟨m.FL K _ H1 d0 v hty (a1.av.vw R1 h2),?_⟩;refine ih _ _ _ h3 F0 _ _ σ H1 _ R1.rebase fun vs H2 S2 k2 a2=>?_;have R2:=R1.bL S2;refine m.ok K _ H2 d v ds vs pr Q h6 ((a1.av.keep R1 S2 k2).vw R2 h4) (a2.vw R2 h5) (fun b z=>R2.fm z) fun v H3 s3 hp=>?_;exact q v H3 (R2.same s3) (k1.trans k2) (R2.mF s3 hp)
      ·cases h
     ·cases h
    ·cases h
   ·cases h
  ·cases h
 ·cases h
theorem Rel.Gz (R:Rel K F0 H₀ I env σ H) {i:Nat} {d d':PyData} {a:Addr} (hm:bp env i=some d) (s:σ[i]?=some (some (.ref a))) (hk:∀ b o,b≠a->H b=some o->H' b=some o) (ht:Top K (FF F0 env σ) H' d' a):Rel K F0 H₀ I (iR env i d') σ H':=by
 obtain ⟨m,a',s',_,_⟩:=R.dQ hm;rw [s] at s';cases s';have hia:IA env σ a:=⟨i,m,s⟩;refine R.chg (fb env i d') (fun b o e n=>hk b o (fun z=>n (z▸hia)) e) fun j c b hc hs=>?_;by_cases z:j=i
 ·subst z;rw [kM m] at hc;cases hc;rw [s] at hs;cases hs;exact ht
 ·have hc':bp env j=some c:=by
   unfold bp at hc ⊢
   rwa [lh z] at hc
  obtain ⟨m2,b',s2,_,t2⟩:=R.dQ hc';rw [hs] at s2;cases s2;have nb:b≠a:=fun y=>z (R.sep j i a m2 m (y▸hs) s);refine t2.pr (R.pL fun b' o e n=>hk b' o (fun z=>n (z▸hia)) e) (fun _ z=>z) fun o e=>hk b o nb e
theorem F7 {m:Mtr} {i:Nat} {as:XA} (ih:SA K ga gd as):SE K ga gd (.mtr m i as):=by
 intro env rv env' h F0 H₀ I σ H Q R q;simp only [dE] at h;split at h
 ·rename_i d0 h0;split at h
  ·rename_i hty;split at h
   ·rename_i avs e1 h1;split at h
    ·rename_i d ds h2 h3;split at h
     ·rename_i d' pr h4;cases h;obtain ⟨_,a,s,f,t⟩:=R.dQ h0;refine ⟨.ref a,s,m.FL K _ H d0 a hty t,?_⟩;refine ih _ _ _ h1 F0 H₀ I σ H _ R fun vs H1 R1 k1 a1=>?_;obtain ⟨m1,a',s',f1,t1⟩:=R1.dQ h2;rw [s] at s';cases s';refine m.ok K _ H1 d a ds vs d' pr Q h4 f1 t1 (a1.mv R1 h3) fun v H2 hk ht hp=>?_;refine q v H2 (R1.Gz h2 s hk ht) (k1.trans (se _ _ _)) ?_;show Dm K (FF F0 (iR e1 i d') σ) H2 pr v;rw [(fb e1 i d').ff (F0:=F0) (σ:=σ)];exact hp
     ·cases h
    ·cases h
   ·cases h
  ·cases h
 ·cases h
def adr (σ:St) (i:Nat):Addr:=match σ[i]? with | some (some (.ref a))=>a | _=>0
theorem iy {i:Nat} {a:Addr} (h:σ[i]?=some (some (.ref a))):adr σ i=a:=by unfold adr;rw [h]
theorem kq {ms:List PM} {as:List AV} {ds:List PyData} {m:PM} {a:AV} (h:j3 env (m :: ms) (a :: as)=some ds):∃ d r,ds=d :: r/\FZ env m a=some d/\j3 env ms as=some r:=by
 unfold j3 at h;split at h
 ·rename_i d r e1 e2;cases h;exact ⟨d,r,rfl,e1,e2⟩
 ·cases h
theorem fZ.bor {G I:Addr->Prop} {d:PyData} {a:Addr} (h:fZ K G I H d a):ze K G I H d (.ref a):=by cases d <;> first | exact ⟨a,rfl,h⟩ | exact absurd h id
theorem Bw (R:Rel K F0 H₀ I env σ H) (all:List Nat) (hall:∀ i∈all,mu env i):∀ {ms:List PM} {as:List AV} {ds:List PyData} {vs:List V},j3 env ms as=some ds->iF K F0 env σ H as vs->(dq ms as).Nodup->(∀ i∈uO ms as,i ∉ all)->(∀ i∈dq ms as,i∈all) ->
  cq K (FF F0 env σ) (·∈all.map (adr σ)) H ms ds vs ((dq ms as).map (adr σ)):=by
 have iAll:∀ b,b∈all.map (adr σ)->IA env σ b:=fun b hb=>by
  obtain ⟨i,hi,e⟩:=Jn.mp hb;have m:=hall i hi;obtain ⟨d,m'⟩:=m;have:∃ a,σ[i]?=some (some (.ref a)):=by
   rcases m' with z | z
   ·obtain ⟨a,s,_⟩:=R.own i d z;exact ⟨a,s⟩
   ·obtain ⟨a,s,_⟩:=R.ino i d z;exact ⟨a,s⟩
  obtain ⟨a,s⟩:=this;rw [iy s] at e;subst e;exact ⟨i,hall i hi,s⟩
 intro ms;induction ms with
 | nil =>
  intro as ds vs h q _ _ _;cases as with
  | nil=>cases h;rw [show vs=[] from q];rfl
  | cons a as=>cases h
 | cons m ms ih =>
  intro as ds vs h q nd hb hi;cases as with
  | nil=>cases h
  | cons a as =>
   obtain ⟨d,r,rfl,h1,h2⟩:=kq h;obtain ⟨v,vr,rfl,q1,q2⟩:=q;cases m with
   | dat =>
    cases a with
    | bor i=>cases h1
    | dat d' =>
     cases h1;exact ⟨q1,ih h2 q2 (by simpa [dq] using nd) (by simpa [uO] using hb) (by simpa [dq] using hi)⟩
   | bor =>
    cases a with
    | dat d' =>
     by_cases ct:∃ ts,d'=.tuple ts
     ·obtain ⟨ts,rfl⟩:=ct;cases h1;exact ⟨q1,ih h2 q2 (by simpa [dq] using nd) (by simpa [uO] using hb) (by simpa [dq] using hi)⟩
     have l:d'=d/\((∃ ds,d=.list ds)\/∃ ds,d=.dict ds):=by
      cases d' <;> first | exact absurd ⟨_,rfl⟩ ct | (cases h1;exact ⟨rfl,.inl ⟨_,rfl⟩⟩) | (cases h1;exact ⟨rfl,.inr ⟨_,rfl⟩⟩) | cases h1
     obtain ⟨rfl,l⟩:=l;obtain ⟨b,e,t⟩:=Dm.ro (I:=(·∈all.map (adr σ))) q1 (fun b z=>R.ia (iAll b z)) l;exact ⟨by rcases l with ⟨_,rfl⟩ | ⟨_,rfl⟩ <;> exact ⟨b,e,t⟩,ih h2 q2 (by simpa [dq] using nd) (by simpa [uO] using hb) (by simpa [dq] using hi)⟩
    | bor i =>
     have h1:cont env i=some d:=h1;have hb':i ∉ all:=hb i (by simp [uO]);refine ⟨?_,ih h2 q2 (by simpa [dq] using nd) (fun j hj=>hb j (by simp [uO,hj])) (by simpa [dq] using hi)⟩;unfold cont at h1;have na:∀ a,mu env i->σ[i]?=some (some (.ref a))->a ∉ all.map (adr σ):=fun a m s z=>by
      obtain ⟨j,hj,e⟩:=Jn.mp z;obtain ⟨k,mk,sk⟩:=iAll a z;obtain ⟨dj,mj⟩:=hall j hj;have:∃ c,σ[j]?=some (some (.ref c)):=by
       rcases mj with z | z
       ·obtain ⟨a,s,_⟩:=R.own j dj z;exact ⟨a,s⟩
       ·obtain ⟨a,s,_⟩:=R.ino j dj z;exact ⟨a,s⟩
      obtain ⟨c,sj⟩:=this;rw [iy sj] at e;subst e;have:=R.sep i j c m ⟨dj,mj⟩ s sj;subst this;exact hb' hj
     split at h1
     ·rename_i d' e;cases h1;obtain ⟨a,s,_,_,t⟩:=R.own i d e;rw [show σ[i]?=some (some v) from q1] at s;cases s;exact fZ.bor (t.ro (na a ⟨d,.inl e⟩ q1))
     ·rename_i d' e;cases h1;obtain ⟨a,s,_,_,t⟩:=R.ino i d e;rw [show σ[i]?=some (some v) from q1] at s;cases s;exact fZ.bor (t.ro (na a ⟨d,.inr e⟩ q1))
     ·rename_i d' e;cases h1;obtain ⟨a,s,t⟩:=R.ro i d e;rw [show σ[i]?=some (some v) from q1] at s;cases s;exact fZ.bor (t.pr Pr.refl (fun _ z=>z) iAll fun _ _ z _=>z)
     ·cases h1
   | ino =>
    cases a with
    | dat d'=>cases h1
    | bor i =>
     have h1:bp env i=some d:=h1;obtain ⟨m,b,s,f,t⟩:=R.dQ h1;rw [show σ[i]?=some (some v) from q1] at s;cases s;have nd':i ∉ dq ms as/\(dq ms as).Nodup:=by simpa [dq] using nd
     refine ⟨b,(dq ms as).map (adr σ),rfl,by simp [dq,iy q1],f,t,fun z=>?_,ih h2 q2 nd'.2 (by simpa [uO] using hb) (fun j hj=>hi j (by simp [dq,hj]))⟩;obtain ⟨j,hj,e⟩:=Jn.mp z;obtain ⟨dj,mj⟩:=hall j (hi j (by simp [dq,hj]));have:∃ c,σ[j]?=some (some (.ref c)):=by
      rcases mj with z | z
      ·obtain ⟨a,s,_⟩:=R.own j dj z;exact ⟨a,s⟩
      ·obtain ⟨a,s,_⟩:=R.ino j dj z;exact ⟨a,s⟩
     obtain ⟨c,sj⟩:=this;rw [iy sj] at e;subst e;have:=R.sep i j c m ⟨dj,mj⟩ q1 sj;subst this;exact nd'.1 hj
theorem sr:∀ {ms:List PM} {as:List AV} {ds:List PyData},j3 env ms as=some ds->∀ i∈dq ms as,mu env i
 | [],[],_,_,i,h=>by simp [dq] at h
 | [],_ :: _,_,h,_,_=>by cases h
 | _ :: _,[],_,h,_,_=>by cases h
 | m :: ms,a :: as,_,h,i,hi=>by
  obtain ⟨d,r,rfl,h1,h2⟩:=kq h;have ih:=sr h2 i;cases m with
  | dat=>exact ih (by simpa [dq] using hi)
  | bor=>exact ih (by simpa [dq] using hi)
  | ino =>
   cases a with
   | dat d'=>cases h1
   | bor j =>
    simp only [dq,Iz] at hi;rcases hi with rfl | hi
    ·rcases o8 h1 with e | e
     ·exact ⟨d,.inl e⟩
     ·exact ⟨d,.inr e⟩
    ·exact ih hi
theorem mh:∀ (env:En) (is:List Nat) (ds:List PyData),SmK env (dU env is ds)
 | env,[],ds=>by unfold dU;exact SmK.refl _
 | env,i :: is,[]=>by unfold dU;exact SmK.refl _
 | env,i :: is,d :: ds=>by unfold dU;exact (fb env i d).trans (mh _ is ds)
theorem jQ:∀ (env:En) (is:List Nat) (ds:List PyData) (j:Nat),j ∉ is->(dU env is ds)[j]?=env[j]?
 | env,[],ds,j,_=>by unfold dU;rfl
 | env,i :: is,[],j,_=>by unfold dU;rfl
 | env,i :: is,d :: ds,j,h=>by
  unfold dU;have n:j≠i:=fun z=>h (by rw [z];exact Ik);rw [jQ _ is ds j (fun z=>h (Io _ z)),lh n]
theorem kW {G:Addr->Prop}:∀ {env:En} {is:List Nat} {ds:List PyData} {j:Nat} {c:PyData},is.Nodup->(∀ i∈is,mu env i)->i9 K G H ds (is.map (adr σ))->j∈is->bp (dU env is ds) j=some c->Top K G H c (adr σ j)
 | env,[],ds,j,c,_,_,_,h,_=>by simp at h
 | env,i :: is,[],j,c,_,_,h,_,_=>by simp [i9] at h
 | env,i :: is,d :: ds,j,c,nd,hm,h,hj,hc=>by
  obtain ⟨n1,nd'⟩:=Jt.mp nd;have h':Top K G H d (adr σ i)/\i9 K G H ds (is.map (adr σ)):=h;unfold dU at hc;rcases Iz.mp hj with rfl | hj
  ·have e:=jQ (iR env j d) is ds j n1;have:bp (iR env j d) j=some c:=by unfold bp at hc ⊢;rwa [e] at hc
   rw [kM (hm j Ik)] at this;cases this;exact h'.1
  ·exact kW (env:=iR env i d) nd' (fun k hk=>(fb env i d).symm.kp.mu (hm k (Io _ hk))) h'.2 hj hc
theorem iK:∀ {is:List Nat},zD is=true->is.Nodup
 | [],_=>List.nodup_nil
 | x :: xs,h=>by
  have h':xs.contains x=false/\zD xs=true:=by simpa [zD] using h
  exact Jt.mpr ⟨fun z=>by simp [z] at h',iK h'.2⟩
theorem yO {is bs:List Nat} {n:Nat} (h:ckA is bs n=true):is.Nodup/\(∀ i∈bs,i ∉ is)/\n=is.length:=by
 unfold ckA at h;simp only [Ji,J5,IZ] at h;exact ⟨iK h.1,fun i hi z=>by have:=h.2.1 i hi;simp [z] at this,h.2.2⟩
theorem s_call {f:Fn} {as:XA} (ih:SA K ga gd as):SE K ga gd (.call f as):=by
 intro env rv env' h F0 H₀ I σ H Q R q;simp only [dE] at h;split at h
 ·rename_i avs e1 h1;unfold v5 at h;split at h
  ·cases h
  ·rename_i ds h2;split at h
   ·cases h
   ·rename_i pr outs h3;split at h
    ·rename_i hc;obtain ⟨nd,hb,hl⟩:=yO hc;cases h;refine ih _ _ _ h1 F0 H₀ I σ H _ R fun vs H1 R1 k1 a1=>?_;show fi f K (vs++[]) H1 Q NoE;rw [Jd];have hmu:=sr h2;refine ⟨FF F0 e1 σ,ds,(dq f.ms avs).map (adr σ),pr,outs,h3,Bw R1 (dq f.ms avs) hmu h2 a1 nd hb (fun _ z=>z),fun b z=>R1.fm z,fun v H2 hk hr=>?_⟩;have k:=mh e1 (dq f.ms avs) outs;have eF:=k.ff (F0:=F0) (σ:=σ);have eI:=k.ia (σ:=σ);have isIA:∀ b,b∈(dq f.ms avs).map (adr σ)->IA e1 σ b:=fun b hb=>by
      obtain ⟨i,hi,e⟩:=Jn.mp hb;obtain ⟨d,m'⟩:=hmu i hi;have:∃ a,σ[i]?=some (some (.ref a)):=by
       rcases m' with z | z
       ·obtain ⟨a,s,_⟩:=R1.own i d z;exact ⟨a,s⟩
       ·obtain ⟨a,s,_⟩:=R1.ino i d z;exact ⟨a,s⟩
      obtain ⟨a,s⟩:=this;rw [iy s] at e;subst e;exact ⟨i,hmu i hi,s⟩
     have hk':∀ b o,H1 b=some o->¬IA e1 σ b->H2 b=some o:=fun b o e n=>hk b o e fun z=>n (isIA b z);have lI:∀ j d a,j ∉ dq f.ms avs->bp (dU e1 (dq f.ms avs) outs) j=some d->σ[j]?=some (some (.ref a))->bp e1 j=some d/\a ∉ (dq f.ms avs).map (adr σ):=fun j d a hj hm hs=>by
      have hm':bp e1 j=some d:=by unfold bp at hm ⊢;rwa [jQ _ _ _ _ hj] at hm
      refine ⟨hm',fun z=>?_⟩;obtain ⟨i,hi,e⟩:=Jn.mp z;obtain ⟨i',m2,s2⟩:=isIA a z;obtain ⟨di,mi⟩:=hmu i hi;have:∃ a,σ[i]?=some (some (.ref a)):=by
       rcases mi with z | z
       ·obtain ⟨a,s,_⟩:=R1.own i di z;exact ⟨a,s⟩
       ·obtain ⟨a,s,_⟩:=R1.ino i di z;exact ⟨a,s⟩
      obtain ⟨c,sc⟩:=this;rw [iy sc] at e;subst e;have:=R1.sep j i c (R1.dQ hm').1 ⟨di,mi⟩ hs sc;subst this;exact hj hi
     cases pr with
     | dat d =>
      obtain ⟨hd,ht⟩:=hr;refine q v H2 (R1.chg k hk' fun j c a hm hs=>?_) (k1.trans k.kp) (show Dm K _ H2 d v by rw [eF];exact hd);by_cases hj:j∈dq f.ms avs
      ·have:=kW nd hmu ht hj hm
       rwa [iy hs] at this
      ·obtain ⟨hm',ha⟩:=lI j c a hj hm hs;obtain ⟨_,a',s',_,t'⟩:=R1.dQ hm';rw [hs] at s';cases s';exact t'.pr (R1.pL hk') (fun _ z=>z) fun o e=>hk a o e ha
     | frs d =>
      obtain ⟨c,ev,hn,td,ht⟩:=hr;obtain ⟨o,ho,_⟩:=td.wr;have sm:aY H1 (upd H1 c o):=aY.nw o hn;have R1c:=R1.fresh (c:=c) hn sm (by rw [aF];exact nofun);have cIA:¬IA e1 σ c:=fun z=>by obtain ⟨o',z,_⟩:=R1.iaT z;rw [hn] at z;cases z
      have hkc:∀ b o',upd H1 c o b=some o'->¬IA e1 σ b->H2 b=some o':=fun b o' e n=>by
       by_cases z:b=c
       ·subst z;rw [aF] at e;cases e;exact ho
       ·rw [aA z] at e;exact hk' b o' e n
      have pF:Pr (fun b=>FF F0 e1 σ b\/b=c) H1 H2:=fun b o' e n=>hk' b o' e fun y=>by
       rcases n with n | n
       ·exact n (.inl (R1.ia y))
       ·obtain ⟨o2,h2,w2⟩:=R1.iaT y;rw [e] at h2;cases h2;rw [n] at w2;cases w2
      have R2c:Rel K (fun b=>F0 b\/b=c) H₀ I (dU e1 (dq f.ms avs) outs) σ H2:=by
       refine R1c.chg k hkc fun j c' a hm hs=>?_;rw [gh];by_cases hj:j∈dq f.ms avs
       ·have:=kW nd hmu ht hj hm
        rwa [iy hs] at this
       ·obtain ⟨hm',ha⟩:=lI j c' a hj hm hs;obtain ⟨_,a',s',_,t'⟩:=R1.dQ hm';rw [hs] at s';cases s';exact (t'.fresh hn).pr pF (fun _ z=>z) fun o e=>hk a o e ha
      have nino:∀ (i:Nat) (d':PyData),(dU e1 (dq f.ms avs) outs)[i]?=some (.ino d')->σ[i]?≠some (some (.ref c)):=fun i d' e' z=>cIA ⟨i,k.kp.mu ⟨d',.inr e'⟩,z⟩;have rv:fj K F0 H₀ I (dU e1 (dq f.ms avs) outs) σ H2 (.frs d) v:=by
       refine ⟨c,ev,R2c,by rw [eF];exact td,R1.oi (.inl hn),fun z=>?_,nino,fun i d' e'=>?_⟩
       ·rw [eF] at z;exact R1.fm z hn
       ·have e0:e1[i]?=some (.ro d'):=by
         rcases k.2 i with y | ⟨_,_,_,y⟩ | ⟨_,_,_,y⟩
         ·rw [<- y];exact e'
         ·rw [e'] at y;cases y
         ·rw [e'] at y;cases y
        obtain ⟨b,s,t⟩:=R1.ro i d' e0;rw [eF,eI];exact ⟨b,s,((t.fresh hn).xM hn).pr pF (fun _ z=>z) (fun _ z=>z) fun b o' e n=>hk' b o' e fun z=>n (.inl z)⟩
      exact q v H2 rv.rel (k1.trans k.kp) rv
    ·cases h
 ·cases h
theorem DZ {as:XA} (ih:SA K ga gd as):SE K ga gd (.tup as):=by
 intro env rv env' h F0 H₀ I σ H Q R q;simp only [dE] at h;split at h
 ·rename_i avs e1 h1;split at h
  ·rename_i ds h2;split at h
   ·rename_i hl;cases h;refine ih _ _ _ h1 F0 H₀ I σ H _ R fun vs H1 R1 k1 a1=>?_;have dl:=a1.Ej h2;have hl':vs.length<=sizeLine:=by rw [dl.len];exact hl
    refine ⟨hl',fun p hp=>?_⟩;have s:=aY.nw (.tup vs) hp;exact q _ _ (R1.same s) k1 ⟨p,vs,rfl,.inl (.inl aF),hl',dl.pr (Pr.of_same s) fun _ z=>z⟩
   ·cases h
  ·cases h
 ·cases h
theorem FU {as:XA} (ih:SA K ga gd as):SE K ga gd (.lst as):=by
 intro env rv env' h F0 H₀ I σ H Q R q;simp only [dE] at h;split at h
 ·rename_i avs e1 h1;split at h
  ·rename_i ds h2;split at h
   ·rename_i hl;cases h;refine ih _ _ _ h1 F0 H₀ I σ H _ R fun vs H1 R1 k1 a1=>?_;have dl:=a1.Ej h2;have hl':vs.length<=sizeLine:=by rw [dl.len];exact hl
    refine ⟨hl',fun p hp=>?_⟩;have s:=aY.nw (.lst vs) hp;exact q _ _ (R1.same s) k1 (R1.mF (pr:=.frs (.list ds)) s ⟨p,rfl,hp,vs,aF,hl',(dl.fresh hp).pr (Pr.of_same s) fun _ z=>z⟩)
   ·cases h
  ·cases h
 ·cases h
theorem Gu {as:XA} (ih:SF K ga gd as):SE K ga gd (.fst as):=by
 intro env rv env' h F0 H₀ I σ H Q R q;simp only [dE] at h;split at h
 ·rename_i x e1 h1;cases h;exact ih _ _ _ _ h1 F0 H₀ I σ H _ R (show PyData.strOk ⟨#[]⟩=true by simp [PyData.strOk]) fun H1 R1 k1 hl ho=>q _ H1 R1 k1 ⟨rfl,hl,ho⟩
 ·cases h
theorem Fe:SF K ga gd .nil:=by
 intro out env x env' h F0 H₀ I σ H Q R ok q;simp only [dF] at h;split at h
 ·rename_i hl;cases h;exact ⟨hl,q H R (KpE.refl _) hl ok⟩
 ·cases h
theorem Cy {e:XE} {r:XA} (ie:SE K ga gd e) (ir:SF K ga gd r):SF K ga gd (.cons e r):=by
 intro out env x env' h F0 H₀ I σ H Q R ok q;simp only [dF] at h;split at h
 ·rename_i y e1 h1;split at h
  ·rename_i hl;refine ie _ _ _ h1 F0 H₀ I σ H _ R fun v H1 R1 k1 a1=>?_;obtain ⟨rfl,_,oky⟩:=(show v=.str y/\y.length<=sizeLine/\PyData.strOk y=true from a1);refine ⟨y,rfl,hl,?_⟩;exact ir _ _ _ _ h F0 H₀ I σ H1 _ R1 (mn ok oky) fun H2 R2 k2 hx=>q H2 R2 (k1.trans k2) hx
  ·cases h
 ·cases h
theorem EL:SA K ga gd .nil:=by
 intro env rv env' h F0 H₀ I σ H Q R q;simp only [dA] at h;cases h;exact q [] H R (KpE.refl _) rfl
theorem Bd {e:XE} {r:XA} (ie:SE K ga gd e) (ir:SA K ga gd r):SA K ga gd (.cons e r):=by
 intro env rv env' h F0 H₀ I σ H Q R q;simp only [dA] at h;split at h
 ·rename_i rv0 e1 h1;split at h
  ·rename_i avs e2 h2;cases h;refine ie _ _ _ h1 F0 H₀ I σ H _ R fun v H1 R1 k1 a1=>?_;refine ir _ _ _ h2 F0 _ _ σ H1 _ R1.rebase fun vs H2 S2 k2 a2=>?_;exact q (v :: vs) H2 (R1.bL S2) (k1.trans k2) ⟨v,vs,rfl,a1.av.keep R1 S2 k2,a2⟩
  ·cases h
 ·cases h
end
end L2
end
section
namespace L2
open PySem
section
variable {K:Fg} {F F' I I' F0:Addr->Prop} {H H' H₀:Hp} {env env':En} {σ σ':St} {ga:Nat->V} {gd:List PyData}
theorem Fp {c:XT} {a b:XE} (ic:ST K ga gd c) (ia:SE K ga gd a) (ib:SE K ga gd b):SE K ga gd (.ifx c a b):=by
 intro env rv env' h F0 H₀ I σ H Q R q;simp only [dE] at h;split at h
 ·rename_i e1 h1;refine ic _ _ _ h1 F0 H₀ I σ H _ R fun H1 R1 k1=>?_;rw [Ip rfl];exact ia _ _ _ h F0 H₀ I σ H1 _ R1 fun v H2 R2 k2 r=>q v H2 R2 (k1.trans k2) r
 ·rename_i e1 h1;refine ic _ _ _ h1 F0 H₀ I σ H _ R fun H1 R1 k1=>?_;rw [Im (by decide)];exact ib _ _ _ h F0 H₀ I σ H1 _ R1 fun v H2 R2 k2 r=>q v H2 R2 (k1.trans k2) r
 ·cases h
theorem Ak {a b:XE} (ia:SE K ga gd a) (ib:SE K ga gd b):SE K ga gd (.ug a b):=by
 intro env rv env' h F0 H₀ I σ H Q R q;simp only [dE] at h;split at h
 ·rename_i e1 h1;refine ia _ _ _ h1 F0 H₀ I σ H _ R fun v H1 R1 k1 r1=>⟨true,r1,?_⟩;rw [Ip rfl];exact ib _ _ _ h F0 H₀ I σ H1 _ R1 fun v H2 R2 k2 r=>q v H2 R2 (k1.trans k2) r
 ·rename_i e1 h1;cases h;refine ia _ _ _ h1 F0 H₀ I σ H _ R fun v H1 R1 k1 r1=>⟨false,r1,?_⟩;rw [Im (by decide)];exact q _ H1 R1 k1 rfl
 ·cases h
theorem Ga {a b:XE} (ia:SE K ga gd a) (ib:SE K ga gd b):SE K ga gd (.orv a b):=by
 intro env rv env' h F0 H₀ I σ H Q R q;simp only [dE] at h;split at h
 ·rename_i e1 h1;cases h;refine ia _ _ _ h1 F0 H₀ I σ H _ R fun v H1 R1 k1 r1=>⟨true,r1,?_⟩;rw [Ip rfl];exact q _ H1 R1 k1 rfl
 ·rename_i e1 h1;refine ia _ _ _ h1 F0 H₀ I σ H _ R fun v H1 R1 k1 r1=>⟨false,r1,?_⟩;rw [Im (by decide)];exact ib _ _ _ h F0 H₀ I σ H1 _ R1 fun v H2 R2 k2 r=>q v H2 R2 (k1.trans k2) r
 ·cases h
theorem BQ {a:XE} (ia:SE K ga gd a):SE K ga gd (.zV a):=by
 intro env rv env' h F0 H₀ I σ H Q R q;simp only [dE] at h;split at h
 ·rename_i x e1 h1;cases h;exact ia _ _ _ h1 F0 H₀ I σ H _ R fun v H1 R1 k1 r1=>⟨x,r1,q _ H1 R1 k1 rfl⟩
 ·cases h
theorem EC {x y:PyData} {u v:V} (hx:Vw K F H x u) (hy:Vw K F H y v):VwL K F H [x,y] [u,v]:=⟨u,[v],rfl,hx,v,[],rfl,hy,rfl⟩
theorem E4 {p p':Prm} {a b c:XE} (ia:SE K ga gd a) (ib:SE K ga gd b) (ic:SE K ga gd c):SE K ga gd (.chn p p' a b c):=by
 intro env rv env' h F0 H₀ I σ H Q R q;simp only [dE] at h;split at h
 ·rename_i ra e1 h1;split at h
  ·rename_i rb e2 h2;split at h
   ·rename_i x y hx hy;refine ia _ _ _ h1 F0 H₀ I σ H _ R fun v H1 R1 k1 r1=>?_;refine ib _ _ _ h2 F0 _ _ σ H1 _ R1.rebase fun u H2 S2 k2 r2=>?_;have R2:=R1.bL S2;have a1:=r1.av.keep R1 S2 k2;have a2:=r2.av;rw [hx] at a1;rw [hy] at a2;have dx:Dm K (FF F0 e2 σ) H2 x v:=a1;have dy:Dm K (FF F0 e2 σ) H2 y u:=a2;split at h
    ·rename_i hp;split at h
     ·rename_i rc e3 h3;split at h
      ·rename_i z hz;split at h
       ·rename_i pr hq;cases h;refine p.ok K _ H2 _ _ _ _ hp (EC dx.vw dy.vw) (fun b z=>R2.fm z) fun w H3 s3 hw=>⟨true,hw,?_⟩;rw [Ip rfl];have R3:=R2.same s3;have dy3:Dm K (FF F0 e2 σ) H3 y u:=dy.pr (Pr.of_same s3) fun _ z=>z;refine ic _ _ _ h3 F0 _ _ σ H3 _ R3.rebase fun t H4 S4 k4 r4=>?_;have R4:=R3.bL S4;have a4:=r4.av;rw [hz] at a4;have dz:Dm K (FF F0 env' σ) H4 z t:=a4;refine p'.ok K _ H4 _ _ _ _ hq (EC (R3.pN S4 k4 dy3).vw dz.vw) (fun b z=>R4.fm z) fun w H5 s5 hw=>?_;exact q w H5 (R4.same s5) ((k1.trans k2).trans k4) (R4.mF s5 hw)
       ·cases h
      ·cases h
     ·cases h
    ·rename_i hp;cases h;refine p.ok K _ H2 _ _ _ _ hp (EC dx.vw dy.vw) (fun b z=>R2.fm z) fun w H3 s3 hw=>⟨false,hw,?_⟩;rw [Im (by decide)];exact q _ H3 (R2.same s3) (k1.trans k2) rfl
    ·cases h
   ·cases h
  ·cases h
 ·cases h
theorem DM {p:Int->Int->Prm} {a b c:XE} (ia:SE K ga gd a) (ib:SE K ga gd b) (ic:SE K ga gd c):SE K ga gd (.sl2 p a b c):=by
 intro env rv env' h F0 H₀ I σ H Q R q;simp only [dE] at h;split at h
 ·rename_i ra e1 h1;split at h
  ·rename_i i e2 h2;split at h
   ·rename_i j e3 h3;split at h
    ·rename_i d hv;split at h
     ·rename_i pr hp;cases h;refine ia _ _ _ h1 F0 H₀ I σ H _ R fun v H1 R1 k1 r1=>?_;refine ib _ _ _ h2 F0 _ _ σ H1 _ R1.rebase fun u H2 S2 k2 r2=>⟨i,r2,?_⟩;have R2:=R1.bL S2;have a1:=r1.av.keep R1 S2 k2;refine ic _ _ _ h3 F0 _ _ σ H2 _ R2.rebase fun w H3 S3 k3 r3=>⟨j,r3,?_⟩;have R3:=R2.bL S3;have a2:=a1.keep R2 S3 k3;refine (p i j).ok K _ H3 [d] [v] pr Q hp ⟨v,[],rfl,a2.vw R3 hv,rfl⟩ (fun b z=>R3.fm z) fun w H4 s4 hw=>?_;exact q w H4 (R3.same s4) ((k1.trans k2).trans k3) (R3.mF s4 hw)
     ·cases h
    ·cases h
   ·cases h
  ·cases h
 ·cases h
theorem EM {e:XE} (ie:SE K ga gd e):ST K ga gd (.tst e):=by
 intro env b env' h F0 H₀ I σ H Q R q;simp only [dT] at h;split at h
 ·rename_i x e1 h1;cases h;exact ie _ _ _ h1 F0 H₀ I σ H _ R fun v H1 R1 k1 r1=>⟨_,r1,q H1 R1 k1⟩
 ·cases h
theorem km {ds:List PyData} {vs:List V} (h:DmL K F H ds vs):vs.isEmpty=ds.isEmpty:=by
 cases ds with
 | nil=>rw [show vs=[] from h];rfl
 | cons d ds=>obtain ⟨v,r,rfl,_⟩:=h;rfl
theorem Vw.tru {d:PyData} {v:V} (h:Vw K F H d v) (nd:FP d≠true):DJ K v H (D9 d):=by
 cases d with
 | none=>rw [show v=.non from h];rfl
 | bool b=>rw [show v=.bl b from h];rfl
 | int i=>rw [show v=.int i from h];rfl
 | str x=>obtain ⟨rfl,hl,_⟩:=(show v=.str x/\x.length<=sizeLine/\PyData.strOk x=true from h);exact ⟨hl,rfl⟩
 | list ds=>obtain ⟨a,rfl,xs,e,_,r⟩:=h;exact .inl ⟨xs,e,by rw [km r];rfl⟩
 | tuple ds=>obtain ⟨a,xs,rfl,e,_,r⟩:=h;exact .inr (.inl ⟨xs,e,by rw [km r];rfl⟩)
 | dict ds=>exact absurd rfl nd
theorem F4 {e:XE} (ie:SE K ga gd e):ST K ga gd (.tru e):=by
 intro env b env' h F0 H₀ I σ H Q R q;simp only [dT] at h;split at h
 ·rename_i x e1 h1;split at h
  ·rename_i d h2;split at h
   ·cases h
   ·rename_i nd;cases h;exact ie _ _ _ h1 F0 H₀ I σ H _ R fun v H1 R1 k1 r1=>⟨_,(r1.av.vw R1 h2).tru nd,q H1 R1 k1⟩
  ·cases h
 ·cases h
theorem E5 {a b:XT} (ia:ST K ga gd a) (ib:ST K ga gd b):ST K ga gd (.and a b):=by
 intro env x env' h F0 H₀ I σ H Q R q;simp only [dT] at h;split at h
 ·rename_i e1 h1;refine ia _ _ _ h1 F0 H₀ I σ H _ R fun H1 R1 k1=>?_;rw [Ip rfl];exact ib _ _ _ h F0 H₀ I σ H1 _ R1 fun H2 R2 k2=>q H2 R2 (k1.trans k2)
 ·rename_i e1 h1;cases h;refine ia _ _ _ h1 F0 H₀ I σ H _ R fun H1 R1 k1=>?_;rw [Im (by decide)];exact q H1 R1 k1
 ·cases h
theorem HU {a b:XT} (ia:ST K ga gd a) (ib:ST K ga gd b):ST K ga gd (.or a b):=by
 intro env x env' h F0 H₀ I σ H Q R q;simp only [dT] at h;split at h
 ·rename_i e1 h1;cases h;refine ia _ _ _ h1 F0 H₀ I σ H _ R fun H1 R1 k1=>?_;rw [Ip rfl];exact q H1 R1 k1
 ·rename_i e1 h1;refine ia _ _ _ h1 F0 H₀ I σ H _ R fun H1 R1 k1=>?_;rw [Im (by decide)];exact ib _ _ _ h F0 H₀ I σ H1 _ R1 fun H2 R2 k2=>q H2 R2 (k1.trans k2)
 ·cases h
theorem Gr {a:XT} (ia:ST K ga gd a):ST K ga gd (.not a):=by
 intro env x env' h F0 H₀ I σ H Q R q;simp only [dT] at h;split at h
 ·rename_i b e1 h1;cases h;exact ia _ _ _ h1 F0 H₀ I σ H _ R fun H1 R1 k1=>q H1 R1 k1
 ·cases h
theorem EV:ST K ga gd .yes:=by
 intro env x env' h F0 H₀ I σ H Q R q;simp only [dT] at h;cases h;exact q H R (KpE.refl _)
theorem xH {a:Addr} {vs:List V} {ds:List PyData} (hd:DmL K F H ds vs) (hl:vs.length<=sizeLine) (h:∀ H',(∀ b o,H b=some o->¬I b->H' b=some o)->SqL K H' a vs):wd K F I H (Itl K a) ds :=
 i8 hd hl fun H' k j=>⟨fun hj=>⟨⟨vs,vs[j],h H' k,Ia hj⟩,fun x H'' y=>⟨y.1,y.2 vs (h H' k)⟩⟩,fun hj=>⟨vs,h H' k,hj⟩⟩
theorem Bl {a:Addr} {vs:List V} {ds:List PyData} (hd:DmL K F H ds vs) (hl:vs.length<=sizeLine) (h:∀ H',(∀ b o,H b=some o->¬I b->H' b=some o)->SqT K H' a vs):wd K F I H (Itt K a) ds :=
 i8 hd hl fun H' k j=>⟨fun hj=>⟨⟨vs,vs[j],h H' k,Ia hj⟩,fun x H'' y=>⟨y.1,y.2 vs (h H' k)⟩⟩,fun hj=>⟨vs,h H' k,hj⟩⟩
theorem zQ {e:XE} (ie:SE K ga gd e):SI K ga gd (.lst e):=by
 intro env ds lock env' h F0 H₀ I σ H Q R q;simp only [dI] at h;split at h
 ·rename_i rv e1 h1;split at h
  ·rename_i ds' hv;cases h;refine ie _ _ _ h1 F0 H₀ I σ H _ R fun v H1 R1 k1 r1=>?_;have a1:=r1.av;rw [hv] at a1;obtain ⟨a,xs,rfl,l,z,r⟩:=(show Dm K (FF F0 env' σ) H1 (.list ds) v from a1);refine ⟨a,rfl,⟨xs,l.elim (fun q=>.inl q.2) .inr⟩,q _ H1 R1 k1 (fun i z=>by cases z) (xH r z fun H' k=>?_)⟩;rcases l with ⟨n,l | ⟨o,l⟩⟩ | l
   ·exact .inl (.inl (k _ _ l fun z=>n (R1.ia z.1)))
   ·exact .inl (.inr ⟨o,k _ _ l fun z=>n (R1.ia z.1)⟩)
   ·exact .inr l
  ·cases h
  ·rename_i i hv;split at h
   ·rename_i ds' hc;cases h;refine ie _ _ _ h1 F0 H₀ I σ H _ R fun v H1 R1 k1 r1=>?_;have a1:=r1.av;rw [hv] at a1;have s:σ[i]?=some (some v):=a1;unfold cont at hc;have fin:∀ a xs,v=.ref a->DmL K (FF F0 env' σ) H1 ds xs->xs.length<=sizeLine->(∀ H',(∀ b o,H1 b=some o->¬(IA env' σ b/\∀ j,some i=some j->mu env' j->σ[j]?≠some (some (.ref b)))->H' b=some o)->SqL K H' a xs)->(∃ d,cont env' i=some d) ->
      ∃ a,v=.ref a/\(∃ xs,SqL K H1 a xs)/\Q (Itl K a) H1:=fun a xs ev r z k hcd =>
     ⟨a,ev,⟨xs,k H1 fun _ _ e _=>e⟩,q _ H1 R1 k1 (fun j hj=>by cases hj;exact hcd) (xH r z k)⟩
    split at hc
    ·rename_i d e;cases hc;obtain ⟨a,s',_,_,xs,t,z,r⟩:=R1.own i _ e;rw [s] at s';cases s';exact fin a xs rfl r z (fun H' k=>.inl (.inl (k _ _ t fun y=>y.2 i rfl ⟨_,.inl e⟩ s))) ⟨_,by unfold cont;rw [e]⟩
    ·rename_i d e;cases hc;obtain ⟨a,s',_,_,xs,t,z,r⟩:=R1.ino i _ e;rw [s] at s';cases s';exact fin a xs rfl r z (fun H' k=>.inl (.inl (k _ _ t fun y=>y.2 i rfl ⟨_,.inr e⟩ s))) ⟨_,by unfold cont;rw [e]⟩
    ·rename_i d e;cases hc;obtain ⟨a,s',xs,l,z,r⟩:=R1.ro i _ e;rw [s] at s';cases s';refine fin a xs rfl r z (fun H' k=>?_) ⟨_,by unfold cont;rw [e]⟩;rcases l with ⟨n,l | ⟨o,l⟩⟩ | l
     ·exact .inl (.inl (k _ _ l fun z=>n z.1))
     ·exact .inl (.inr ⟨o,k _ _ l fun z=>n z.1⟩)
     ·exact .inr l
    ·cases hc
   ·cases h
 ·cases h
theorem tN:∀ {kvs:List (PyData×PyData)} {xs:List (PyData×V×V)},DmP K F H kvs xs->DmL K F H (kvs.map (·.1)) (xs.map (·.2.1))
 | [],xs,h=>by rw [show xs=[] from h];rfl
 | (k,d) :: kvs,xs,h=>by
  obtain ⟨j,v,r,rfl,_,h0,_,h2⟩:=h;exact ⟨j,_,rfl,h0,tN h2⟩
theorem xw {a:Addr} {ep:Nat} {xs:List (PyData×V×V)} {kvs:List (PyData×PyData)} (hd:DmP K F H kvs xs) (hl:xs.length<=sizeLine) (h:∀ H':Hp,(∀ b o,H b=some o->¬I b->H' b=some o)->H' a=some (.dD ep xs)):wd K F I H (Itd a ep xs) (kvs.map (·.1)) :=
 i8 (vs:=xs.map (·.2.1)) (tN hd) (by rw [Ig];exact hl) fun H' k j=>⟨fun hj=>⟨⟨h H' k,by rw [Ig] at hj;exact hj⟩,fun x H'' y=>⟨y.1,by rw [IJ];exact y.2⟩⟩,fun hj=>⟨h H' k,by rw [Ig] at hj;exact hj⟩⟩
theorem FY {e:XE} (ie:SE K ga gd e):SI K ga gd (.dct e):=by
 intro env ds lock env' h F0 H₀ I σ H Q R q;simp only [dI] at h;split at h
 ·rename_i rv e1 h1;split at h
  ·rename_i kvs hv;cases h;refine ie _ _ _ h1 F0 H₀ I σ H _ R fun v H1 R1 k1 r1=>?_;have a1:=r1.av;rw [hv] at a1;obtain ⟨a,ep,xs,rfl,n,l,z,r⟩:=(show Dm K (FF F0 env' σ) H1 (.dict kvs) v from a1);exact ⟨a,ep,xs,rfl,l,q _ H1 R1 k1 (fun i z=>by cases z) (xw r z fun H' k=>k _ _ l fun z=>n (R1.ia z.1))⟩
  ·cases h
  ·rename_i i hv;split at h
   ·rename_i kvs hc;cases h;refine ie _ _ _ h1 F0 H₀ I σ H _ R fun v H1 R1 k1 r1=>?_;have a1:=r1.av;rw [hv] at a1;have s:σ[i]?=some (some v):=a1;unfold cont at hc;have fin:∀ a ep xs,v=.ref a->DmP K (FF F0 env' σ) H1 kvs xs->xs.length<=sizeLine->(∀ H':Hp,(∀ b o,H1 b=some o->¬(IA env' σ b/\∀ j,some i=some j->mu env' j->σ[j]?≠some (some (.ref b)))->H' b=some o)->H' a=some (.dD ep xs))->(∃ d,cont env' i=some d) ->
      ∃ a ep xs,v=.ref a/\H1 a=some (.dD ep xs)/\Q (Itd a ep xs) H1:=fun a ep xs ev r z k hcd =>
     ⟨a,ep,xs,ev,k H1 fun _ _ e _=>e,q _ H1 R1 k1 (fun j hj=>by cases hj;exact hcd) (xw r z k)⟩
    split at hc
    ·rename_i d e;cases hc;obtain ⟨a,s',_,_,ep,xs,t,z,r⟩:=R1.own i _ e;rw [s] at s';cases s';exact fin a ep xs rfl r z (fun H' k=>k _ _ t fun y=>y.2 i rfl ⟨_,.inl e⟩ s) ⟨_,by unfold cont;rw [e]⟩
    ·rename_i d e;cases hc;obtain ⟨a,s',_,_,ep,xs,t,z,r⟩:=R1.ino i _ e;rw [s] at s';cases s';exact fin a ep xs rfl r z (fun H' k=>k _ _ t fun y=>y.2 i rfl ⟨_,.inr e⟩ s) ⟨_,by unfold cont;rw [e]⟩
    ·rename_i d e;cases hc;obtain ⟨a,s',ep,xs,n,l,z,r⟩:=R1.ro i _ e;rw [s] at s';cases s';exact fin a ep xs rfl r z (fun H' k=>k _ _ l fun z=>n z.1) ⟨_,by unfold cont;rw [e]⟩
    ·cases hc
   ·cases h
 ·cases h
theorem CZ {e:XE} (ie:SE K ga gd e):SI K ga gd (.tup e):=by
 intro env ds lock env' h F0 H₀ I σ H Q R q;simp only [dI] at h;split at h
 ·rename_i rv e1 h1;split at h
  ·rename_i ds' hv;cases h;refine ie _ _ _ h1 F0 H₀ I σ H _ R fun v H1 R1 k1 r1=>?_;have a1:=r1.av;rw [hv] at a1;obtain ⟨a,xs,rfl,l,z,r⟩:=(show Dm K (FF F0 env' σ) H1 (.tuple ds) v from a1);refine ⟨a,rfl,⟨xs,l⟩,q _ H1 R1 k1 (fun i z=>by cases z) (Bl r z fun H' k=>?_)⟩;exact l.pr (R1.pL fun b o e n=>k b o e fun z=>n z.1)
  ·cases h
 ·cases h
theorem HA {e:XE} (ie:SE K ga gd e):SI K ga gd (.sq e):=by
 intro env ds lock env' h F0 H₀ I σ H Q R q;simp only [dI] at h;split at h
 ·rename_i rv e1 h1;split at h
  ·rename_i ds' hv;exact .inl (zQ ie env ds lock env' (by simp only [dI,h1,hv];exact h) F0 H₀ I σ H Q R q)
  ·rename_i ds' hv;exact .inr (CZ ie env ds lock env' (by simp only [dI,h1,hv];exact h) F0 H₀ I σ H Q R q)
  ·cases h
  ·rename_i i hv;exact .inl (zQ ie env ds lock env' (by simp only [dI,h1,hv];exact h) F0 H₀ I σ H Q R q)
 ·cases h
theorem xS:∀ {cs:List Nat},(∀ c∈cs,c < 0x110000)->DmL K F H (cs.map fun c=>.str ⟨#[c]⟩) (cs.map fun c=>.str ⟨#[c]⟩)
 | [],_=>rfl
 | c :: cs,h=>⟨_,_,rfl,⟨rfl,by show 1<=sizeLine;decide,by have:=h c Ik;simp [PyData.strOk,this]⟩,xS fun x hx=>h x (Io _ hx)⟩
theorem fW {x:Str} (h:PyData.strOk x=true):∀ c∈x.cps.toList,c < 0x110000:=fun c hc=>by
 unfold PyData.strOk at h;have:=Array.all_eq_true'.mp h c (by simpa using hc);simpa using this
theorem EI {e:XE} (ie:SE K ga gd e):SI K ga gd (.str e):=by
 intro env ds lock env' h F0 H₀ I σ H Q R q;simp only [dI] at h;split at h
 ·rename_i rv e1 h1;split at h
  ·rename_i x hv;cases h;refine ie _ _ _ h1 F0 H₀ I σ H _ R fun v H1 R1 k1 r1=>?_;have a1:=r1.av;rw [hv] at a1;obtain ⟨rfl,hl,ok⟩:=(show v=.str x/\x.length<=sizeLine/\PyData.strOk x=true from a1);have ez:x.cps.toList.length=x.length:=by simp [Str.length]
   refine ⟨x,rfl,q _ H1 R1 k1 (fun i z=>by cases z) (i8 (xS (fW ok)) (by rw [Ig,ez];exact hl) fun H' k j=>⟨fun hj=>?_,fun hj=>?_⟩)⟩
   ·rw [Ig,ez] at hj;refine ⟨hj,fun y H'' hy=>?_⟩;obtain ⟨e,c,hc,rfl⟩:=hy;refine ⟨e,?_⟩;rw [IJ];have:x.cps.toList[j]?=some c:=by rw [<- hc];simp
    rw [this];rfl
   ·rw [Ig,ez] at hj;exact hj
  ·cases h
 ·cases h
theorem wK {f:Nat->Int}:∀ {cs:List Nat},DmL K F H (cs.map fun c=>.int (f c)) (cs.map fun c=>.int (f c))
 | []=>rfl
 | c :: cs=>⟨_,_,rfl,rfl,wK⟩
theorem xn {lo:Int} {n:Nat} (hn:n<=sizeLine):wd K F I H (Itr lo n) ((List.range n).map fun (k:Nat)=>.int (lo+(k:Int))):=by
 refine i8 (vs:=(List.range n).map fun (k:Nat)=>.int (lo+(k:Int))) (wK (f:=fun k=>lo+(k:Int))) (by rw [Ig,Js];exact hn) fun H' k j=>⟨fun hj=>?_,fun hj=>?_⟩
 ·rw [Ig,Js] at hj;refine ⟨hj,fun y H'' hy=>⟨hy.1,?_⟩⟩;rw [IJ,List.getElem?_range hj,hy.2];rfl
 ·rw [Ig,Js] at hj;exact hj
theorem AE {as:XA} (ia:SA K ga gd as):SI K ga gd (.rng1 as):=by
 intro env ds lock env' h F0 H₀ I σ H Q R q;simp only [dI] at h;split at h
 ·rename_i avs e1 h1;split at h
  ·rename_i j;split at h
   ·rename_i hj;cases h;refine ia _ _ _ h1 F0 H₀ I σ H _ R fun vs H1 R1 k1 a1=>?_;obtain ⟨v,r,rfl,hv,rfl⟩:=a1;have hv:v=.int j:=hv;subst hv;refine ⟨j,rfl,hj.1,by have:=hj.2;omega,q _ H1 R1 k1 (fun i z=>by cases z) (xn ?_)⟩;have:=hj.2;show j.toNat<=2 ^ 24;omega
   ·cases h
  ·cases h
 ·cases h
theorem BD {a b:Addr} {xs ys:List V} {ds es:List PyData} (hd:DmL K F H ds xs) (he:DmL K F H es ys) (hl:xs.length<=sizeLine) (h1:∀ H',(∀ b o,H b=some o->¬I b->H' b=some o)->SqL K H' a xs) (h2:∀ H',(∀ b o,H b=some o->¬I b->H' b=some o)->SqL K H' b ys):wd K F I H (Itz K a b xs ys) ((ds.zip es).map fun p=>.tuple [p.1,p.2]):=by
 have e1:=hd.len;have e2:=he.len;have el:((ds.zip es).map fun p=>PyData.tuple [p.1,p.2]).length=min xs.length ys.length:=by rw [Ig,List.length_zip,e1,e2]
 refine ⟨by rw [el];omega,fun H' k j=>⟨fun hj=>?_,fun hj=>?_⟩⟩
 ·rw [el] at hj;refine ⟨⟨h1 H' k,h2 H' k,by omega,by omega⟩,?_⟩;rintro x H'' ⟨p,u,v,hp,rfl,hu,hv,rfl⟩;obtain ⟨d,d1,d2⟩:=hd.get' hu;obtain ⟨e,e3,e4⟩:=he.get' hv;refine ⟨.tuple [d,e],?_,.inr ⟨p,u,v,d,e,rfl,rfl,hp,rfl,d2,e4⟩⟩;rw [IJ,show (ds.zip es)[j]?=some (d,e) from List.getElem?_zip_eq_some.mpr ⟨d1,e3⟩];rfl
 ·rw [el] at hj;exact ⟨h1 H' k,h2 H' k,by omega⟩
theorem Fi {as:XA} (ia:SA K ga gd as):SI K ga gd (.zip as):=by
 intro env ds lock env' h F0 H₀ I σ H Q R q;simp only [dI] at h;split at h
 ·rename_i avs e1 h1;split at h
  ·rename_i x y;split at h
   ·rename_i xs ys hx hy;cases h;refine ia _ _ _ h1 F0 H₀ I σ H _ R fun vs H1 R1 k1 a1=>?_;obtain ⟨v,r,rfl,hv,w,r2,rfl,hw,rfl⟩:=a1;have one:∀ {x:AV} {xs:List PyData} {v:V},roL env' x=some xs->wY K F0 env' σ H1 x v->∃ a us,v=.ref a/\us.length<=sizeLine/\DmL K (FF F0 env' σ) H1 xs us/\∀ H',(∀ b o,H1 b=some o->¬(IA env' σ b/\∀ i,none=some i->mu env' i->σ[i]?≠some (some (.ref b)))->H' b=some o)->SqL K H' a us:=by
     intro x xs v hx hv;unfold roL at hx;split at hx
     ·cases hx;obtain ⟨a,us,rfl,l,z,r⟩:=(show Dm K (FF F0 env' σ) H1 (.list xs) v from hv);refine ⟨a,us,rfl,z,r,fun H' k=>?_⟩;rcases l with ⟨n,l | ⟨o,l⟩⟩ | l
      ·exact .inl (.inl (k _ _ l fun z=>n (R1.ia z.1)))
      ·exact .inl (.inr ⟨o,k _ _ l fun z=>n (R1.ia z.1)⟩)
      ·exact .inr l
     ·rename_i i;split at hx
      ·rename_i e;cases hx;have s:σ[i]?=some (some v):=hv;obtain ⟨a,s',us,l,z,r⟩:=R1.ro i _ e;rw [s] at s';cases s';refine ⟨a,us,rfl,z,r,fun H' k=>?_⟩;rcases l with ⟨n,l | ⟨o,l⟩⟩ | l
       ·exact .inl (.inl (k _ _ l fun z=>n z.1))
       ·exact .inl (.inr ⟨o,k _ _ l fun z=>n z.1⟩)
       ·exact .inr l
      ·cases hx
     ·cases hx
    obtain ⟨a,us,rfl,za,ra,sa⟩:=one hx hv;obtain ⟨b,ws,rfl,zb,rb,sb⟩:=one hy hw;exact ⟨a,b,us,ws,rfl,sa H1 fun _ _ e _=>e,sb H1 fun _ _ e _=>e,q _ H1 R1 k1 (fun i z=>by cases z) (BD ra rb za sa sb)⟩
   ·cases h
  ·cases h
 ·cases h
theorem BJ {as:XA} (ia:SA K ga gd as):SI K ga gd (.rng2 as):=by
 intro env ds lock env' h F0 H₀ I σ H Q R q;simp only [dI] at h;split at h
 ·rename_i avs e1 h1;split at h
  ·rename_i i j;split at h
   ·rename_i hj;cases h;refine ia _ _ _ h1 F0 H₀ I σ H _ R fun vs H1 R1 k1 a1=>?_;obtain ⟨v,r,rfl,hv,w,r2,rfl,hw,rfl⟩:=a1;have hv:v=.int i:=hv;have hw:w=.int j:=hw;subst hv hw;refine ⟨i,j,rfl,⟨hj.1,hj.2.1,hj.2.2.1,hj.2.2.2.1⟩,q _ H1 R1 k1 (fun i z=>by cases z) (xn ?_)⟩;have:=hj.2.2.2.2;show (j - i).toNat<=2 ^ 24;omega
   ·cases h
  ·cases h
 ·cases h
end
end L2
end
section
namespace L2
open PySem
section
variable {K:Fg} {F F' I I' F0:Addr->Prop} {H H' H₀:Hp} {env env':En} {σ σ':St} {ga:Nat->V} {gd:List PyData}
theorem fj.carry {d:PyData} {p:Addr} (h:fj K F0 H₀ I env σ H (.frs d) (.ref p)) (S:Rel K (fun b=>F0 b\/b=p) H (IA env σ) env' σ H') (k:KpE env env'):fj K F0 H₀ I env' σ H' (.frs d) (.ref p):=by
 obtain ⟨a,ea,R,t,w,nF,hi,hr⟩:=h;cases ea;have cIA:¬IA env σ p:=fun z=>by
  obtain ⟨i,⟨c,e | e⟩,s⟩:=z
  ·exact nF (.inr ⟨i,c,e,s⟩)
  ·exact hi i c e s
 have R':=R.bL S;have hk:∀ b o,H b=some o->¬IA env σ b->H' b=some o:=S.dX;have pF:Pr (fun b=>FF F0 env σ b\/b=p) H H':=by
  have:=R.pL hk
  rwa [gh] at this
 have hf:∀ b,(FF F0 env' σ b\/b=p)->(FF F0 env σ b\/b=p):=fun b z=>z.imp (fun z=>k.ff z) id;refine ⟨p,rfl,R',t.pr pF hf fun o e=>hk p o e cIA,w,fun z=>nF (k.ff z),fun i c e s=>cIA ⟨i,k.mu ⟨c,.inr e⟩,s⟩,fun i c e=>?_⟩;obtain ⟨s,e0,ev⟩:=k.back e;have es:s=.ro c:=by
  cases s with
  | un=>cases ev
  | dat _=>cases ev
  | own _=>rcases ev with ⟨_,v⟩ | ⟨_,v⟩ | v <;> cases v
  | ino _=>obtain ⟨_,v⟩:=ev;cases v
  | ro d'=>cases ev;rfl
 subst es;obtain ⟨b,q,t'⟩:=hr i c e0;exact ⟨b,q,t'.pr pF hf (fun b z=>z.imp (fun z=>k.ia z) id) fun b o e n=>hk b o e fun z=>n (.inl z)⟩
theorem fj.put {d d':PyData} {p:Addr} {o:HO} (h:fj K F0 H₀ I env σ H (.frs d) (.ref p)) (ht:Top K (fun b=>FF F0 env σ b\/b=p) (upd H p o) d' p):fj K F0 H₀ I env σ (upd H p o) (.frs d') (.ref p):=by
 obtain ⟨a,ea,R,t,w,nF,hi,hr⟩:=h;cases ea;have cIA:¬IA env σ p:=fun z=>by
  obtain ⟨i,⟨c,e | e⟩,s⟩:=z
  ·exact nF (.inr ⟨i,c,e,s⟩)
  ·exact hi i c e s
 have pF:Pr (fun b=>FF F0 env σ b\/b=p) H (upd H p o):=fun b u e n=>by
  by_cases z:b=p
  ·subst z;rcases n with n | n
   ·exact absurd (.inr rfl) n
   ·obtain ⟨o',h',w'⟩:=t.wr;rw [e] at h';cases h';rw [n] at w';cases w'
  ·rw [aA z];exact e
 have eF:FF (fun b=>F0 b\/b=p) env σ=fun b=>FF F0 env σ b\/b=p:=gh;have nea:∀ i b,mu env i->σ[i]?=some (some (.ref b))->b≠p:=fun i b m s z=>cIA (z▸⟨i,m,s⟩);have hro:∀ (i:Nat) (d':PyData),env[i]?=some (.ro d')->∃ b,σ[i]?=some (some (.ref b))/\fZ K (fun b=>FF F0 env σ b\/b=p) (fun b=>IA env σ b\/b=p) (upd H p o) d' b:=fun i c e=>by
  obtain ⟨b,q,t'⟩:=hr i c e;exact ⟨b,q,t'.pr pF (fun _ z=>z) (fun _ z=>z) fun b u e n=>by rw [aA (fun z=>n (.inr z))];exact e⟩
 refine ⟨p,rfl,⟨R.len,fun i c e=>?_,fun i c e=>?_,fun i c e=>?_,fun i c e=>?_,R.sep,fun b hb=>?_,fun b u e n=>?_⟩,ht,w,nF,hi,hro⟩
 ·obtain ⟨v,s,r⟩:=R.dat i c e;rw [eF] at r ⊢;exact ⟨v,s,r.pr pF fun _ z=>z⟩
 ·obtain ⟨b,s,n,w',t'⟩:=R.own i c e;rw [eF] at t' ⊢;exact ⟨b,s,n,w',t'.pr pF (fun _ z=>z) fun u e'=>by rw [aA (nea i b ⟨c,.inl e⟩ s)];exact e'⟩
 ·obtain ⟨b,s,n,w',t'⟩:=R.ino i c e;rw [eF] at t' ⊢;exact ⟨b,s,n,w',t'.pr pF (fun _ z=>z) fun u e'=>by rw [aA (nea i b ⟨c,.inr e⟩ s)];exact e'⟩
 ·obtain ⟨b,s,t'⟩:=hro i c e;rw [eF];exact ⟨b,s,t'.pr Pr.refl (fun _ z=>z) (fun _ z=>.inl z) fun _ _ z _=>z⟩
 ·by_cases z:b=p
  ·subst z;rw [aF];exact nofun
  ·rw [aA z];exact R.dom b hb
 ·have:=R.dX b u e n;by_cases z:b=p
  ·subst z;rcases w with w | w
   ·rw [e] at w;cases w
   ·exact absurd w n
  ·rw [aA z];exact this
theorem xu (a b:Key):PyData.eqv (kD a) (kD b)=decide (a=b):=by
 cases a with
 | inl i=>cases b with
  | inl j=>by_cases z:i=j <;> simp [kD,PyData.eqv,z]
  | inr y=>simp [kD,PyData.eqv]
 | inr x=>cases b with
  | inl j=>simp [kD,PyData.eqv]
  | inr y=>by_cases z:x=y <;> simp [kD,PyData.eqv,z]
theorem xr {k:PyData}:∀ {ds:List (PyData×PyData)} {xs:List (PyData×V×V)},DmP K F H ds xs->(ds.any fun kv=>PyData.eqv kv.1 k)=xs.any fun x=>PyData.eqv x.1 k
 | [],xs,h=>by rw [show xs=[] from h];rfl
 | (k',d) :: ds,xs,h=>by
  obtain ⟨j,v,r,rfl,_,_,_,h2⟩:=h;rw [List.any_cons,List.any_cons,xr h2]
theorem rB {k d:PyData} {v:V} (hd:Dm K F H d v):∀ {ds:List (PyData×PyData)} {xs:List (PyData×V×V)},DmP K F H ds xs->DmP K F H (ds.map fun kv=>if PyData.eqv kv.1 k=true then (kv.1,d) else kv) (xs.map fun x=>if PyData.eqv x.1 k=true then (x.1,x.2.1,v) else x)
 | [],xs,h=>by rw [show xs=[] from h];rfl
 | (k',d') :: ds,xs,h=>by
  obtain ⟨j,w,r,rfl,e,h0,h1,h2⟩:=h;rw [Jj,Jj];by_cases z:PyData.eqv k' k=true
  ·rw [Ip z,Ip z];exact ⟨j,v,_,rfl,e,h0,hd,rB hd h2⟩
  ·rw [Im z,Im z];exact ⟨j,w,_,rfl,e,h0,h1,rB hd h2⟩
theorem xg {k d:PyData} {j v:V} (hk:hk6 k=true) (hj:Dm K F H k j) (hd:Dm K F H d v):∀ {ds:List (PyData×PyData)} {xs:List (PyData×V×V)},DmP K F H ds xs->DmP K F H (ds++[(k,d)]) (xs++[(k,j,v)])
 | [],xs,h=>by rw [show xs=[] from h];exact ⟨j,v,[],rfl,hk,hj,hd,rfl⟩
 | (k',d') :: ds,xs,h=>by
  obtain ⟨i,w,r,rfl,e,h0,h1,h2⟩:=h;exact ⟨i,w,_,rfl,e,h0,h1,xg hk hj hd h2⟩
theorem xN {k d:PyData} {j v:V} {ds:List (PyData×PyData)} {xs:List (PyData×V×V)} (h:DmP K F H ds xs) (hk:hk6 k=true) (hj:Dm K F H k j) (hd:Dm K F H d v):DmP K F H (putD ds k d) (pH xs k j v):=by
 unfold putD pH;rw [xr h];split
 ·exact rB hd h
 ·exact xg hk hj hd h
theorem Aa {kvs:List (Key×V)} {k:Key} {v:V}:(putK kvs k v).map cvK=pH (kvs.map cvK) (kD k) (kV k) v:=by
 unfold putK pH;have e:((kvs.map cvK).any fun x=>PyData.eqv x.1 (kD k))=kvs.any fun kv=>decide (kv.1=k):=by
  rw [List.any_map];congr 1;funext kv;exact xu _ _
 rw [e];split
 ·rw [Kh,Kh];refine List.map_congr_left fun kv _=>?_;show cvK (if kv.1=k then (kv.1,v) else kv)=if PyData.eqv (kD kv.1) (kD k)=true then _ else _
  rw [xu];by_cases z:kv.1=k
  ·rw [Ip z,Ip (IP z)];rfl
  ·rw [Im z,Im (by simp [z])]
 ·rw [Jl];rfl
theorem vi {kvs:List (Key×V)} {k:Key} {v:V}:(putK kvs k v).length<=kvs.length+1:=by
 unfold putK;split
 ·rw [Ig];exact Nat.le_succ _
 ·rw [Ic];exact Iv _
theorem Az (k:Key):hk6 (kD k)=true:=by cases k <;> rfl
theorem oQ:∀ {kvs:List (Key×PyData)} {vs:List (Key×V)} {ds:List (PyData×PyData)} {xs:List (Key×V)},By K F H kvs vs->DmP K F H ds (xs.map cvK)->DmP K F H (kvs.foldl (fun acc kv=>putD acc (kD kv.1) kv.2) ds) ((d4 xs vs).map cvK)/\(d4 xs vs).length<=xs.length+vs.length
 | [],vs,ds,xs,h,q=>by rw [show vs=[] from h];exact ⟨q,Iv _⟩
 | (k,d) :: kvs,vs,ds,xs,h,q=>by
  obtain ⟨v,r,rfl,h0,h1,h2⟩:=h;have:=oQ h2 (xs:=putK xs k v) (by rw [Aa];exact xN q (Az k) h0 h1);refine ⟨this.1,IY this.2 ?_⟩;have:=vi (kvs:=xs) (k:=k) (v:=v);rw [IH];omega
theorem By.len:∀ {kvs:List (Key×PyData)} {vs:List (Key×V)},By K F H kvs vs->vs.length=kvs.length
 | [],vs,h=>by rw [show vs=[] from h];rfl
 | (k,d) :: kvs,vs,h=>by
  obtain ⟨v,r,rfl,h0,h1,h2⟩:=h;rw [IH,IH,h2.len]
theorem FX:SPs K ga gd .nil:=by
 intro env kvs env' h F0 H₀ I σ H Q R q;simp only [dP] at h;cases h;exact q [] H R (KpE.refl _) rfl
theorem CD {k e:XE} {r:XP} (ik:SE K ga gd k) (ie:SE K ga gd e) (ir:SPs K ga gd r):SPs K ga gd (.cons k e r):=by
 intro env kvs env' h F0 H₀ I σ H Q R q;simp only [dP] at h;split at h
 ·rename_i rk e1 h1;split at h
  ·rename_i rv e2 h2;split at h
   ·rename_i kvs' e3 h3;split at h
    ·rename_i dk d hk hd;split at h
     ·rename_i key hkey;cases h;refine ik _ _ _ h1 F0 H₀ I σ H _ R fun v H1 R1 k1 r1=>?_;refine ie _ _ _ h2 F0 _ _ σ H1 _ R1.rebase fun u H2 S2 k2 r2=>?_;have R2:=R1.bL S2;refine ir _ _ _ h3 F0 _ _ σ H2 _ R2.rebase fun vs H3 S3 k3 r3=>?_;have a1:=r1.av;rw [hk] at a1;have a2:=r2.av;rw [hd] at a2;have ev:v=kV key:=by
       cases dk with
       | int i=>cases hkey;exact (show v=.int i from a1)
       | str x=>cases hkey;exact (show v=.str x/\_ from a1).1
       | _=>cases hkey
      have dd:Dm K (FF F0 env' σ) H3 d u:=R2.pN S3 k3 a2;have dk':Dm K (FF F0 env' σ) H3 (kD key) (kV key):=by
       cases dk with
       | int i=>cases hkey;rfl
       | str x=>cases hkey;exact ⟨rfl,(show v=.str x/\_ from a1).2⟩
       | _=>cases hkey
      rw [ev];exact q ((key,u) :: vs) H3 (R2.bL S3) ((k1.trans k2).trans k3) ⟨u,vs,rfl,dk',dd,r3⟩
     ·cases h
    ·cases h
   ·cases h
  ·cases h
 ·cases h
theorem D3 {as:XP} (ih:SPs K ga gd as):SE K ga gd (.dsp as):=by
 intro env rv env' h F0 H₀ I σ H Q R q;simp only [dE] at h;split at h
 ·rename_i kvs e1 h1;split at h
  ·rename_i hl;cases h;intro p hp;have s:=aY.nw (.dD 0 []) hp;have r0:fj K F0 H₀ I env σ (upd H p (.dD 0 [])) (.frs (.dict [])) (.ref p):=R.mF (pr:=.frs (.dict [])) s ⟨p,rfl,hp,0,[],aF,by decide,rfl⟩;have R0:=r0;obtain ⟨a,ea,R0,_,_,nF,hi,_⟩:=R0;cases ea;have cIA:¬IA env σ p:=fun z=>by
    obtain ⟨i,⟨c,e | e⟩,s⟩:=z
    ·exact nF (.inr ⟨i,c,e,s⟩)
    ·exact hi i c e s
   refine ih _ _ _ h1 _ _ _ σ _ _ R0.rebase fun vs H2 S2 k2 ps=>?_;have r2:=r0.carry S2 k2;rw [gh] at ps;have hm:=oQ ps (xs:=[]) (show DmP K (fun b=>FF F0 env' σ b\/b=p) H2 [] [] from rfl);have hlen:(d4 [] vs).length<=15:=by
    have:=hm.2;rw [ps.len] at this;simp only [JL] at this;omega
   refine ⟨S2.dX p _ aF cIA,vs,rfl,by rw [ps.len];exact hl,fun ep=>?_⟩;have r3:fj K F0 H₀ I env' σ (upd H2 p (.dD ep ((d4 [] vs).map cvK))) (.frs (.dict (kvs.foldl (fun acc kv=>putD acc (kD kv.1) kv.2) []))) (.ref p):=by
    refine r2.put ⟨ep,(d4 [] vs).map cvK,aF,by rw [Ig];exact IY hlen (by decide),hm.1.pr ?_ fun _ z=>z⟩;intro b u e n;by_cases z:b=p
    ·subst z;rcases n with n | n
     ·exact absurd (.inr rfl) n
     ·have:=S2.dX b _ aF cIA;rw [e] at this;cases this;cases n
    ·rw [aA z];exact e
   exact q _ _ r3.rel k2 r3
  ·cases h
 ·cases h
end
end L2
end
section
namespace L2
open PySem
section
variable {K:Fg} {F F' I I' F0:Addr->Prop} {H H' H₀:Hp} {env env':En} {σ σ':St} {ga:Nat->V} {gd:List PyData}
theorem mf {α:Type}:∀ {l:List α} {i j:Nat} {x:α},l.Nodup->l[i]?=some x->l[j]?=some x->i=j
 | [],_,_,_,_,h,_=>by simp at h
 | y :: l,0,0,_,_,_,_=>rfl
 | y :: l,0,j+1,x,nd,h1,h2=>by
  simp at h1 h2;subst h1;exact absurd (IM h2) (Jt.mp nd).1
 | y :: l,i+1,0,x,nd,h1,h2=>by
  simp at h1 h2;subst h2;exact absurd (IM h1) (Jt.mp nd).1
 | y :: l,i+1,j+1,x,nd,h1,h2=>by
  simp at h1 h2;rw [mf (Jt.mp nd).2 h1 h2]
def noOwn (env:En):Prop:=∀ (i:Nat) (d:PyData),env[i]?≠some (.own d)
theorem dr (h:noOwn env):FF F0 env σ=F0:=by
 funext b;apply propext;constructor
 ·rintro (q | ⟨i,d,e,_⟩)
  ·exact q
  ·exact absurd e (h i d)
 ·exact .inl
theorem noOwn.kp (h:noOwn env) (k:KpE env env'):noOwn env':=fun i d e=>by
 obtain ⟨d',e'⟩:=k.own e;exact h i d' e'
def qT:Sl->Prop | .dat _=>True | .un=>True | _=>False
theorem iM {pre:En} {ps:St} (hp:∀ s∈pre,qT s) (hl:pre.length=ps.length):FF F0 (pre++env) (ps++σ)=FF F0 env σ:=by
 funext b;apply propext;constructor
 ·rintro (q | ⟨i,d,e,s⟩)
  ·exact .inl q
  ·by_cases hi:i < pre.length
   ·rw [Iu hi] at e;have:=hp _ (IM e);exact absurd this id
   ·rw [Ii (by omega)] at e;rw [Ii (by omega),<-hl] at s;exact .inr ⟨_,d,e,s⟩
 ·rintro (q | ⟨i,d,e,s⟩)
  ·exact .inl q
  ·refine .inr ⟨pre.length+i,d,?_,?_⟩
   ·rw [Ii (by omega)];simpa using e
   ·rw [Ii (by omega),hl];simpa using s
theorem ly {pre:En} (hp:∀ s∈pre,qT s) {i:Nat} (h:mu (pre++env) i):pre.length<=i/\mu env (i - pre.length):=by
 obtain ⟨d,h⟩:=h;by_cases hi:i < pre.length
 ·rw [Iu hi] at h;rcases h with h | h <;> exact absurd (hp _ (IM h)) id
 ·rw [Ii (by omega)] at h;exact ⟨by omega,d,h⟩
theorem oX {pre:En} {ps:St} (hp:∀ s∈pre,qT s) (hl:pre.length=ps.length):IA (pre++env) (ps++σ)=IA env σ:=by
 funext b;apply propext;constructor
 ·rintro ⟨i,m,s⟩;obtain ⟨hi,m'⟩:=ly hp m;rw [Ii (by omega),<-hl] at s;exact ⟨_,m',s⟩
 ·rintro ⟨i,⟨d,m⟩,s⟩;refine ⟨pre.length+i,⟨d,?_⟩,?_⟩
  ·rw [Ii (by omega)];simpa using m
  ·rw [Ii (by omega),hl];simpa using s
theorem Rel.front (R:Rel K F0 H₀ I env σ H) {ds:List PyData} {vs:List V} (h:DmL K (FF F0 env σ) H ds vs):Rel K F0 H₀ I (ds.map .dat++env) (vs.map some++σ) H:=by
 have hp:∀ s∈(ds.map Sl.dat),qT s:=fun s hs=>by obtain ⟨d,_,rfl⟩:=Jn.mp hs;trivial
 have hl:(ds.map Sl.dat).length=(vs.map some).length:=by rw [Ig,Ig,h.len]
 have hl2:(ds.map Sl.dat).length=ds.length:=Ig _;have eF:=iM (F0:=F0) (env:=env) (σ:=σ) hp hl;have eI:=oX (env:=env) (σ:=σ) hp hl;have back:∀ {i:Nat} {s:Sl},(ds.map Sl.dat++env)[i]?=some s->(∀ d,s≠.dat d)->(ds.map Sl.dat).length<=i/\env[i - (ds.map Sl.dat).length]?=some s:=fun {i s} e n=>by
  by_cases hi:i < (ds.map Sl.dat).length
  ·rw [Iu hi] at e;obtain ⟨d,_,z⟩:=Jn.mp (IM e);exact absurd z.symm (n d)
  ·rw [Ii (by omega)] at e;exact ⟨by omega,e⟩
 have fs:∀ {i:Nat} {x:Option V},(ds.map Sl.dat).length<=i->σ[i - (ds.map Sl.dat).length]?=some x->(vs.map some++σ)[i]?=some x:=fun {i x} hi e=>by
  rw [Ii (by omega),<-hl];exact e
 refine ⟨by rw [Ic,Ic,hl,R.len],fun i d e=>?_,fun i d e=>?_,fun i d e=>?_,fun i d e=>?_,fun i j a h1 h2 h3 h4=>?_,R.dom,R.dX⟩
 ·rw [eF];by_cases hi:i < (ds.map Sl.dat).length
  ·rw [Iu hi,IJ] at e;cases e2:ds[i]? with
   | none=>rw [e2] at e;cases e
   | some d' =>
    rw [e2] at e;cases e;obtain ⟨v,q,r⟩:=h.get e2;refine ⟨v,?_,r⟩;rw [Iu (by omega),IJ,q];rfl
  ·rw [Ii (by omega)] at e;obtain ⟨v,s,r⟩:=R.dat _ d e;exact ⟨v,fs (by omega) s,r⟩
 ·rw [eF];obtain ⟨hi,e⟩:=back e (fun _=>nofun);obtain ⟨a,s,q⟩:=R.own _ d e;exact ⟨a,fs hi s,q⟩
 ·rw [eF];obtain ⟨hi,e⟩:=back e (fun _=>nofun);obtain ⟨a,s,q⟩:=R.ino _ d e;exact ⟨a,fs hi s,q⟩
 ·rw [eF,eI];obtain ⟨hi,e⟩:=back e (fun _=>nofun);obtain ⟨a,s,q⟩:=R.ro _ d e;exact ⟨a,fs hi s,q⟩
 ·obtain ⟨i1,m1⟩:=ly hp h1;obtain ⟨i2,m2⟩:=ly hp h2;rw [Ii (by omega),<-hl] at h3 h4;have:=R.sep _ _ a m1 m2 h3 h4;omega
theorem Rel.behind {pre:En} {ps:St} (R:Rel K F0 H₀ I (pre++env) (ps++σ) H) (hp:∀ s∈pre,qT s) (hl:pre.length=ps.length):Rel K F0 H₀ I env σ H:=by
 have eF:=iM (F0:=F0) (env:=env) (σ:=σ) hp hl;have eI:=oX (env:=env) (σ:=σ) hp hl;have up:∀ {i:Nat} {s:Sl},env[i]?=some s->(pre++env)[pre.length+i]?=some s:=fun {i s} e=>by
  rw [Ii (by omega)];simpa using e
 have dn:∀ {i:Nat} {x:Option V},(ps++σ)[pre.length+i]?=some x->σ[i]?=some x:=fun {i x} e=>by
  rw [Ii (by omega),hl] at e;simpa using e
 have us:∀ {i:Nat} {x:Option V},σ[i]?=some x->(ps++σ)[pre.length+i]?=some x:=fun {i x} e=>by
  rw [Ii (by omega),hl];simpa using e
 refine ⟨by have:=R.len;rw [Ic,Ic,hl] at this;omega,fun i d e=>?_,fun i d e=>?_,fun i d e=>?_,fun i d e=>?_,fun i j a h1 h2 h3 h4=>?_,R.dom,R.dX⟩
 ·obtain ⟨v,s,r⟩:=R.dat _ d (up e);rw [eF] at r;exact ⟨v,dn s,r⟩
 ·obtain ⟨v,s,r⟩:=R.own _ d (up e);rw [eF] at r;exact ⟨v,dn s,r⟩
 ·obtain ⟨v,s,r⟩:=R.ino _ d (up e);rw [eF] at r;exact ⟨v,dn s,r⟩
 ·obtain ⟨v,s,r⟩:=R.ro _ d (up e);rw [eF,eI] at r;exact ⟨v,dn s,r⟩
 ·obtain ⟨d1,m1⟩:=h1;obtain ⟨d2,m2⟩:=h2;have:=R.sep (pre.length+i) (pre.length+j) a ⟨d1,m1.imp up up⟩ ⟨d2,m2.imp up up⟩ (us h3) (us h4);omega
theorem KpE.front {ds:List PyData} {e':En} (k:KpE (ds.map .dat++env) e'):∃ env',e'=ds.map .dat++env'/\KpE env env':=by
 have hlen:=k.1;rw [Ic,Ig] at hlen;refine ⟨e'.drop ds.length,?_,?_,fun i s e=>?_⟩
 ·apply List.ext_getElem?;intro i;by_cases hi:i < ds.length
  ·have hm:(ds.map Sl.dat++env)[i]?=some (.dat ds[i]):=by
    rw [Iu (by rw [Ig];exact hi),IJ,Ia hi];rfl
   obtain ⟨s',h',ev⟩:=k.2 i _ hm;have ev:s'=.dat ds[i]:=ev;rw [h',ev,Iu (by rw [Ig];exact hi),IJ,Ia hi];rfl
  ·rw [Ii (by rw [Ig];omega),List.getElem?_drop,Ig];congr 1;omega
 ·rw [JD];omega
 ·obtain ⟨s',h',ev⟩:=k.2 (ds.length+i) s (by rw [Ii (by rw [Ig];omega),Ig];simpa using e);exact ⟨s',by rw [List.getElem?_drop];exact h',ev⟩
theorem fY {lock:Option Nat} {js:List Nat} {k:Nat} {s:Sl} (h:(ft env lock js)[k]?=some s):∃ j,js[k]?=some j/\s=nH (decide (lock=some j)) (env[j]?.getD .un):=by
 unfold ft at h;rw [IJ] at h;cases e:js[k]? with
 | none=>rw [e] at h;cases h
 | some j=>rw [e] at h;cases h;exact ⟨j,rfl,rfl⟩
theorem oS {js:List Nat} {k j:Nat} (h:js[k]?=some j):(bS js σ)[k]?=some ((σ[j]?).getD none):=by
 unfold bS;rw [IJ,h];rfl
theorem cZ {lock:Option Nat} {js:List Nat}:noOwn (ft env lock js):=fun k d e=>by
 obtain ⟨j,_,e'⟩:=fY e;cases h:env[j]?.getD .un with
 | un=>rw [h] at e';cases e'
 | dat _=>rw [h] at e';cases e'
 | own c=>rw [h] at e';unfold nH at e';simp only at e';split at e' <;> cases e'
 | ino c=>rw [h] at e';unfold nH at e';simp only at e';split at e' <;> cases e'
 | ro _=>rw [h] at e';cases e'
theorem getD_some {j:Nat} {s:Sl} (h:env[j]?.getD .un=s) (n:s≠.un):env[j]?=some s:=by
 cases e:env[j]? with
 | none=>rw [e] at h;exact absurd h.symm n
 | some t=>rw [e] at h;cases h;rfl
theorem oR {lock:Option Nat} {js:List Nat} {k:Nat} {d:PyData} (h:(ft env lock js)[k]?=some (.ino d)):∃ j,js[k]?=some j/\lock≠some j/\(env[j]?=some (.own d)\/env[j]?=some (.ino d)):=by
 obtain ⟨j,hj,e'⟩:=fY h;refine ⟨j,hj,?_⟩;cases h:env[j]?.getD .un with
 | un=>rw [h] at e';cases e'
 | dat _=>rw [h] at e';cases e'
 | own c =>
  rw [h] at e';unfold nH at e';simp only at e';split at e'
  ·cases e'
  ·rename_i n;cases e';exact ⟨by simpa using n,.inl (getD_some h nofun)⟩
 | ino c =>
  rw [h] at e';unfold nH at e';simp only at e';split at e'
  ·cases e'
  ·rename_i n;cases e';exact ⟨by simpa using n,.inr (getD_some h nofun)⟩
 | ro _=>rw [h] at e';cases e'
theorem eK {lock:Option Nat} {js:List Nat} {k:Nat} (h:mu (ft env lock js) k):∃ j,js[k]?=some j/\lock≠some j/\mu env j:=by
 obtain ⟨d,h | h⟩:=h
 ·exact absurd h (cZ k d)
 ·obtain ⟨j,h1,h2,h3⟩:=oR h;exact ⟨j,h1,h2,d,h3⟩
theorem b7 {js:List Nat} {k j:Nat} {a:Addr} (h:js[k]?=some j) (e:(bS js σ)[k]?=some (some (.ref a))):σ[j]?=some (some (.ref a)):=by
 rw [oS h] at e;cases q:σ[j]? with
 | none=>rw [q] at e;cases e
 | some x=>rw [q] at e;cases e;rfl
theorem cT {js:List Nat} {k j:Nat} {v:V} (h:js[k]?=some j) (e:σ[j]?=some (some v)):(bS js σ)[k]?=some (some v):=by rw [oS h,e];rfl
theorem Rel.bS (R:Rel K F0 H₀ I env σ H) {lock:Option Nat} {js:List Nat} (nd:js.Nodup):Rel K (FF F0 env σ) H (IA (ft env lock js) (L2.bS js σ)) (ft env lock js) (L2.bS js σ) H:=by
 have eF:FF (FF F0 env σ) (ft env lock js) (L2.bS js σ)=FF F0 env σ:=dr cZ;have sub:∀ b,IA (ft env lock js) (L2.bS js σ) b->IA env σ b:=fun b ⟨k,m,s⟩=>by
  obtain ⟨j,hj,_,mj⟩:=eK m;exact ⟨j,mj,b7 hj s⟩
 refine ⟨by unfold ft L2.bS;rw [Ig,Ig],fun k d e=>?_,fun k d e=>absurd e (cZ k d),fun k d e=>?_,fun k d e=>?_,fun k l a h1 h2 h3 h4=>?_,fun b h=>R.fm h,fun _ _ h _=>h⟩
 ·rw [eF];obtain ⟨j,hj,e'⟩:=fY e;have ej:env[j]?=some (.dat d):=by
   cases h:env[j]?.getD .un with
   | un=>rw [h] at e';cases e'
   | dat c=>rw [h] at e';cases e';exact getD_some h nofun
   | own c=>rw [h] at e';unfold nH at e';simp only at e';split at e' <;> cases e'
   | ino c=>rw [h] at e';unfold nH at e';simp only at e';split at e' <;> cases e'
   | ro _=>rw [h] at e';cases e'
  obtain ⟨v,s,r⟩:=R.dat j d ej;exact ⟨v,cT hj s,r⟩
 ·rw [eF];obtain ⟨j,hj,_,ej⟩:=oR e;have:∃ a,σ[j]?=some (some (.ref a))/\FF F0 env σ a/\Top K (FF F0 env σ) H d a:=by
   rcases ej with ej | ej
   ·obtain ⟨a,s,_,_,t⟩:=R.own j d ej;exact ⟨a,s,.inr ⟨j,d,ej,s⟩,t⟩
   ·obtain ⟨a,s,f,_,t⟩:=R.ino j d ej;exact ⟨a,s,.inl f,t⟩
  obtain ⟨a,s,f,t⟩:=this;exact ⟨a,cT hj s,f,⟨k,⟨d,.inr e⟩,cT hj s⟩,t⟩
 ·rw [eF];obtain ⟨j,hj,e'⟩:=fY e;have lk:∀ a,lock=some j->mu env j->σ[j]?=some (some (.ref a))->¬IA (ft env lock js) (L2.bS js σ) a:=fun a hl m s ⟨k',m',s'⟩=>by
   obtain ⟨j',hj',hn,mj'⟩:=eK m';have:=R.sep j' j a mj' m (b7 hj' s') s;subst this;exact hn hl
  cases h:env[j]?.getD .un with
  | un=>rw [h] at e';cases e'
  | dat c=>rw [h] at e';cases e'
  | own c =>
   rw [h] at e';unfold nH at e';simp only at e';split at e'
   ·rename_i n;cases e';have ej:=getD_some h nofun;obtain ⟨a,s,_,_,t⟩:=R.own j d ej;exact ⟨a,cT hj s,t.ro (lk a (by simpa using n) ⟨d,.inl ej⟩ s)⟩
   ·cases e'
  | ino c =>
   rw [h] at e';unfold nH at e';simp only at e';split at e'
   ·rename_i n;cases e';have ej:=getD_some h nofun;obtain ⟨a,s,_,_,t⟩:=R.ino j d ej;exact ⟨a,cT hj s,t.ro (lk a (by simpa using n) ⟨d,.inr ej⟩ s)⟩
   ·cases e'
  | ro c =>
   rw [h] at e';cases e';obtain ⟨a,s,t⟩:=R.ro j d (getD_some h nofun);exact ⟨a,cT hj s,t.pr Pr.refl (fun _ z=>z) sub fun _ _ z _=>z⟩
 ·obtain ⟨j1,e1,_,m1⟩:=eK h1;obtain ⟨j2,e2,_,m2⟩:=eK h2;have:=R.sep j1 j2 a m1 m2 (b7 e1 h3) (b7 e2 h4);subst this;exact mf nd e1 e2
theorem bw:∀ (env:En) (js:List Nat) (es:En),SmK env (bh env js es)
 | env,[],es=>by unfold bh;exact SmK.refl _
 | env,j :: js,[]=>by unfold bh;exact SmK.refl _
 | env,j :: js,s :: es=>by
  cases s with
  | ino d=>unfold bh;exact (fb env j d).trans (bw _ js es)
  | un=>unfold bh;exact bw _ js es
  | dat _=>unfold bh;exact bw _ js es
  | own _=>unfold bh;exact bw _ js es
  | ro _=>unfold bh;exact bw _ js es
theorem bq:∀ (env:En) (js:List Nat) (es:En) (i:Nat),i ∉ js->(bh env js es)[i]?=env[i]?
 | env,[],es,i,_=>by unfold bh;rfl
 | env,j :: js,[],i,_=>by unfold bh;rfl
 | env,j :: js,s :: es,i,h=>by
  have n:i≠j:=fun z=>h (by rw [z];exact Ik);have n':i ∉ js:=fun z=>h (Io _ z);cases s with
  | ino d=>unfold bh;rw [bq _ js es i n',lh n]
  | un=>unfold bh;exact bq _ js es i n'
  | dat _=>unfold bh;exact bq _ js es i n'
  | own _=>unfold bh;exact bq _ js es i n'
  | ro _=>unfold bh;exact bq _ js es i n'
theorem e8:∀ (env:En) (js:List Nat) (es:En) (k i:Nat) (s:Sl),js.Nodup->js[k]?=some i->es[k]?=some s->(∀ d,s=.ino d->mu env i->bp (bh env js es) i=some d)/\((∀ d,s≠.ino d)->(bh env js es)[i]?=env[i]?)
 | env,[],es,k,i,s,_,h,_=>by simp at h
 | env,j :: js,[],k,i,s,_,_,h=>by simp at h
 | env,j :: js,t :: es,0,i,s,nd,h,h'=>by
  obtain ⟨n1,nd'⟩:=Jt.mp nd;simp at h h';subst h h';constructor
  ·rintro d rfl m;unfold bh;have:=bq (iR env j d) js es j n1;unfold bp;rw [this];exact kM m
  ·intro hn;cases t with
   | ino d=>exact absurd rfl (hn d)
   | un=>unfold bh;exact bq _ js es j n1
   | dat _=>unfold bh;exact bq _ js es j n1
   | own _=>unfold bh;exact bq _ js es j n1
   | ro _=>unfold bh;exact bq _ js es j n1
 | env,j :: js,t :: es,k+1,i,s,nd,h,h'=>by
  obtain ⟨n1,nd'⟩:=Jt.mp nd;simp at h h';have hi:i∈js:=IM h;have ne:i≠j:=fun z=>n1 (z▸hi);cases t with
  | ino d =>
   unfold bh;have ih:=e8 (iR env j d) js es k i s nd' h h';refine ⟨fun d' e m=>ih.1 d' e ((fb env j d).symm.kp.mu m),fun hn=>?_⟩;rw [ih.2 hn,lh ne]
  | un=>unfold bh;exact e8 env js es k i s nd' h h'
  | dat _=>unfold bh;exact e8 env js es k i s nd' h h'
  | own _=>unfold bh;exact e8 env js es k i s nd' h h'
  | ro _=>unfold bh;exact e8 env js es k i s nd' h h'
theorem KpE.FG (k:KpE env env') {i:Nat} {d:PyData} (e:env[i]?=some (.ino d)):∃ d',env'[i]?=some (.ino d'):=by
 obtain ⟨s',h,ev⟩:=k.2 i _ e;obtain ⟨d',rfl⟩:=ev;exact ⟨d',h⟩
theorem Rel.back (R:Rel K F0 H₀ I env σ H) {lock:Option Nat} {js:List Nat} {ec:En} (nd:js.Nodup) (S:Rel K (FF F0 env σ) H (IA (ft env lock js) (L2.bS js σ)) ec (L2.bS js σ) H') (k:KpE (ft env lock js) ec):Rel K F0 H₀ I (bh env js ec) σ H':=by
 have sub:∀ b,IA (ft env lock js) (L2.bS js σ) b->IA env σ b:=fun b ⟨k,m,s⟩=>by
  obtain ⟨j,hj,_,mj⟩:=eK m;exact ⟨j,mj,b7 hj s⟩
 have hk:∀ b o,H b=some o->¬IA env σ b->H' b=some o:=fun b o e n=>S.dX b o e fun z=>n (sub b z);have eFc:FF (FF F0 env σ) ec (L2.bS js σ)=FF F0 env σ:=dr (cZ.kp k);refine R.chg (bw env js ec) hk fun i d a hm hs=>?_;have sm:=bw env js ec;have mi:mu env i:=sm.kp.mu ((o8 hm).elim (fun e=>⟨d,.inl e⟩) fun e=>⟨d,.inr e⟩);have lI:(bh env js ec)[i]?=env[i]?->¬IA (ft env lock js) (L2.bS js σ) a->Top K (FF F0 env σ) H' d a:=fun e n=>by
  have hm':bp env i=some d:=by unfold bp at hm ⊢;rwa [e] at hm
  obtain ⟨_,a',s',_,t⟩:=R.dQ hm';rw [hs] at s';cases s';exact t.pr (R.pL hk) (fun _ z=>z) fun o e=>S.dX a o e n
 by_cases hi:i∈js
 ·obtain ⟨p,hp⟩:=Ka.mp hi;have hlen:ec.length=js.length:=by rw [k.1];unfold ft;rw [Ig]
  have hpl:p < js.length:=(Ie.mp hp).1;have he:ec[p]?=some (ec[p]'(by omega)):=Ia _;obtain ⟨b1,b2⟩:=e8 env js ec p i _ nd hp he;by_cases hl:lock=some i
  ·-- locked
   refine lI (b2 fun d' z=>?_) ?_
   ·rw [z] at he;obtain ⟨s,e0,ev⟩:=k.back he;obtain ⟨j,hj,e'⟩:=fY e0;rw [hp] at hj;cases hj;obtain ⟨c,hc | hc⟩:=mi
    ·rw [hc] at e';simp only [Option.getD_some,nH,hl,decide_true,KN] at e';subst e';cases ev
    ·rw [hc] at e';simp only [Option.getD_some,nH,hl,decide_true,KN] at e';subst e';cases ev
   ·rintro ⟨q,mq,sq⟩;obtain ⟨j',hj',hn,mj'⟩:=eK mq;have:=R.sep j' i a mj' mi (b7 hj' sq) hs;subst this;exact hn hl
  ·have:∃ c,(ft env lock js)[p]?=some (.ino c):=by
    unfold ft;rw [IJ,hp];obtain ⟨c,hc | hc⟩:=mi
    ·exact ⟨c,by rw [K2,hc];simp [nH,hl]⟩
    ·exact ⟨c,by rw [K2,hc];simp [nH,hl]⟩
   obtain ⟨c,hc⟩:=this;obtain ⟨d',hd'⟩:=k.FG hc;rw [he] at hd';have ed:=b1 d' (Jk hd') mi;rw [hm] at ed;cases ed;obtain ⟨a',s',_,_,t⟩:=S.ino p d (by rw [he];exact hd');have:=b7 hp s';rw [hs] at this;cases this
   rwa [eFc] at t
 ·refine lI (bq env js ec i hi) ?_;rintro ⟨q,mq,sq⟩;obtain ⟨j',hj',hn,mj'⟩:=eK mq;have:=R.sep j' i a mj' mi (b7 hj' sq) hs;subst this;exact hi (IM hj')
end
end L2
end
section
namespace L2
open PySem
section
variable {K:Fg} {F F' I I' F0:Addr->Prop} {H H' H₀ H1:Hp} {env env' e1:En} {σ σ':St} {ga:Nat->V} {gd:List PyData}
def ES (K:Fg) (F:Addr->Prop) (H:Hp) (acc:List V):Option PyData->List V->Prop
 | none,acc'=>acc'=acc
 | some d,acc'=>∃ v,acc'=acc++[v]/\Dm K F H d v
theorem rR {step:PyData->En->Option (Option PyData×En)} {ds ys:List PyData} {ec:En} {lock:Option Nat} {js:List Nat} {J:It} {Q:VK} {τ:Type} {TI:τ->Prop} {t0:τ} {body:τ->List V->V->Hp->(τ->List V->Hp->Prop)->Prop} (ht0:TI t0)
  (R1:Rel K F0 H₀ I e1 σ H1) (nd:js.Nodup) (hit:wd K (FF F0 e1 σ) (fun b=>IA e1 σ b/\∀ i,lock=some i->mu e1 i->σ[i]?≠some (some (.ref b))) H1 J ds) (h2:vc step ds (ft e1 lock js)=some (ys,ec))
  (turn:∀ t acc d envc y envc' x H',TI t->step d envc=some (y,envc')->Rel K (FF F0 e1 σ) H1 (IA (ft e1 lock js) (bS js σ)) envc (bS js σ) H'->noOwn envc->Dm K (FF F0 e1 σ) H' d x->∀ N:τ->List V->Hp->Prop,
   (∀ t' acc' H2,TI t'->Rel K (FF F0 e1 σ) H1 (IA (ft e1 lock js) (bS js σ)) envc' (bS js σ) H2->KpE envc envc'->Pr (FF F0 e1 σ) H' H2->ES K (FF F0 e1 σ) H2 acc y acc'->N t' acc' H2)->body t acc x H' N)
  (fin:∀ acc H',Rel K F0 H₀ I (bh e1 js ec) σ H'->DmL K (FF F0 e1 σ) H' ys acc->acc.length<=sizeLine->∀ p,H' p=none->Q (.ref p) (upd H' p (.lst acc))) :
  ∃ W:Nat->Nat->τ->List V->Hp->Prop,(∃ m,W 0 m t0 [] H1)/\∀ i m t acc H,W i m t acc H ->
   (J.stop i H/\acc.length<=sizeLine/\∀ p,H p=none->Q (.ref p) (upd H p (.lst acc)))\/(J.go i H/\acc.length < sizeLine/\∀ x H',J.yld i H x H'->body t acc x H' fun t' acc' H2=>∃ m',m' < m/\W (i+1) m' t' acc' H2):=by
 obtain ⟨hvl,hturn⟩:=hit;have sub:∀ b,IA (ft e1 lock js) (bS js σ) b->IA e1 σ b/\∀ i,lock=some i->mu e1 i->σ[i]?≠some (some (.ref b)):=fun b ⟨k,m,s⟩=>by
  obtain ⟨j,hj,hn,mj⟩:=eK m;refine ⟨⟨j,mj,b7 hj s⟩,fun i hl mi si=>?_⟩;have:=R1.sep j i b mj mi (b7 hj s) si;subst this;exact hn hl
 have Rc0:=R1.bS (lock:=lock) nd
 refine ⟨fun i m t acc H'=>TI t/\m=ds.length - i/\i<=ds.length/\acc.length<=i/\∃ envc done rest,vc step (ds.drop i) envc=some (rest,ec)/\ys=done++rest/\Rel K (FF F0 e1 σ) H1 (IA (ft e1 lock js) (bS js σ)) envc (bS js σ) H'/\KpE (ft e1 lock js) envc/\DmL K (FF F0 e1 σ) H' done acc,
  ⟨ds.length,ht0,rfl,Jw _,Iv _,ft e1 lock js,[],ys,h2,rfl,Rc0,KpE.refl _,rfl⟩,?_⟩
 rintro i m t acc H' ⟨hti,rfl,hi,hal,envc,done,rest,hc,hy,Rc,kc,hacc⟩;have hkept:∀ b o,H1 b=some o->¬(IA e1 σ b/\∀ i,lock=some i->mu e1 i->σ[i]?≠some (some (.ref b)))->H' b=some o:=fun b o e n=>Rc.dX b o e fun z=>n (sub b z);by_cases hlt:i < ds.length
 ·right;obtain ⟨go,yld⟩:=(hturn H' hkept i).1 (by omega);refine ⟨go,by omega,fun x H'' hx=>?_⟩;obtain ⟨d,hd,hy9⟩:=yld x H'' hx;obtain ⟨sm,hdx'⟩:=hy9.dm (F2:=FF F0 e1 σ) fun d v h=>h.pr (R1.pL fun b o e n=>hkept b o e fun z=>n z.1) fun _ z=>z;have Rc:=Rc.same sm;have hacc:=hacc.pr (fun b o e _=>sm b o e) fun _ z=>z;have ed:ds.drop i=d :: ds.drop (i+1):=by
   rw [Jz hlt];obtain ⟨_,q⟩:=Ie.mp hd;rw [q]
  rw [ed] at hc;unfold vc at hc;split at hc
  ·rename_i y envc' hs;split at hc
   ·rename_i ys' e2 hr;cases hc;refine turn t acc d envc y envc' x H'' hti hs Rc (cZ.kp kc) hdx' _ fun t' acc' H2 ht' R2 k2 p2 ha=>⟨_,by omega,ht',rfl,by omega,?_,envc',done++y.toList,ys',hr,by rw [hy,IK],R2,kc.trans k2,?_⟩
    ·cases y with
     | none=>rw [show acc'=acc from ha];omega
     | some dy=>obtain ⟨v,rfl,_⟩:=ha;rw [Ic];simp;omega
    ·have hacc':=hacc.pr p2 fun _ z=>z;cases y with
     | none=>rw [show acc'=acc from ha];simpa using hacc'
     | some dy=>obtain ⟨v,rfl,hv⟩:=ha;exact hacc'.snoc hv
   ·cases hc
  ·cases hc
 ·left;have e:i=ds.length:=by omega
  subst e;have hz:acc.length<=sizeLine:=by omega
  rw [List.drop_length] at hc;unfold vc at hc;cases hc;rw [Jd] at hy;subst hy;exact ⟨(hturn H' hkept _).2 (by omega),hz,fin acc H' (R1.back nd Rc kc) hacc hz⟩
theorem Fq {js:List Nat} {it:XI} {c:XT} {e:XE} (ii:SI K ga gd it) (ic:ST K ga gd c) (ie:SE K ga gd e):SE K ga gd (.cmp js it c e):=by
 intro env rv env' h F0 H₀ I σ H Q R q;simp only [dE] at h;split at h
 ·rename_i ds lock e1 h1;split at h
  ·rename_i nd;split at h
   ·rename_i ys ec h2;cases h;refine ii _ _ _ _ h1 F0 H₀ I σ H _ R fun J H1 R1 k1 _ hit=>?_;refine Exists.elim (rR (Q:=Q) (τ:=Unit) (TI:=fun _=>True) (t0:=()) (body:=fun _ acc x H' N=>rT K ga c (some x :: bS js σ) H' fun b H2=>if b=true then rE K ga e (some x :: bS js σ) H2 fun y H3=>N () (acc++[y]) H3 else N () acc H2) trivial R1 nd hit h2 ?_ ?_) fun W hw=>?_
    rotate_right 1
    ·obtain ⟨w0,hW⟩:=hw;exact ⟨fun i m acc H=>W i m () acc H,w0,fun i m acc H w=>hW i m () acc H w⟩
    ·intro _ acc d envc y envc' x H' _ hs Rc no hd N hN;have eF:FF (FF F0 e1 σ) envc (bS js σ)=FF F0 e1 σ:=dr no;have Rx:Rel K (FF F0 e1 σ) H1 (IA (ft e1 lock js) (bS js σ)) (.dat d :: envc) (some x :: bS js σ) H':=Rc.front (ds:=[d]) (vs:=[x]) ⟨x,[],rfl,by rw [eF];exact hd,rfl⟩;have frontF:∀ {e2:En},KpE envc e2->FF (FF F0 e1 σ) (.dat d :: e2) (some x :: bS js σ)=FF F0 e1 σ:=fun {e2} k=>by
      have:=iM (F0:=FF F0 e1 σ) (env:=e2) (σ:=bS js σ) (pre:=[.dat d]) (ps:=[some x]) (fun s hs=>by rw [Iq.mp hs];trivial) rfl;exact this.trans (dr (no.kp k))
     unfold jU at hs;split at hs
     ·rename_i e2 hT;split at hs
      ·rename_i rv e3 hE;split at hs
       ·rename_i dy hv;cases hs;refine ic _ _ _ hT _ _ _ _ H' _ Rx.rebase fun H2 S2 k2=>?_;rw [Ip rfl];have R2:=Rx.bL S2;refine ie _ _ _ hE _ _ _ _ H2 _ R2.rebase fun v H3 S3 k3 r3=>?_;have R3:=R2.bL S3;obtain ⟨ex,e3',kx⟩:=(k2.trans k3).front (ds:=[d]);have k23:=k2.trans k3;subst e3';have ht:(([d].map Sl.dat)++ex).tail=ex:=rfl;obtain ⟨e2x,e2',k2x⟩:=k2.front (ds:=[d]);have p12:Pr (FF F0 e1 σ) H' H2:=by have:=Rx.pL S2.dX;rwa [frontF (KpE.refl _)] at this
        have p23:Pr (FF F0 e1 σ) H2 H3:=by
         have:=R2.pL S3.dX;rw [e2'] at this
         rwa [show FF (FF F0 e1 σ) ([d].map Sl.dat++e2x) (some x :: bS js σ)=FF F0 e1 σ from frontF k2x] at this
        have a3:=r3.av;rw [hv] at a3;have dv:Dm K (FF F0 e1 σ) H3 dy v:=by
         have:Dm K (FF (FF F0 e1 σ) ([d].map Sl.dat++ex) (some x :: bS js σ)) H3 dy v:=a3
         rwa [show FF (FF F0 e1 σ) ([d].map Sl.dat++ex) (some x :: bS js σ)=FF F0 e1 σ from frontF kx] at this
        exact hN () _ H3 trivial (R3.behind (pre:=[.dat d]) (ps:=[some x]) (fun s hs=>by rw [Iq.mp hs];trivial) rfl) kx (p12.trans p23 fun _ z=>z) ⟨v,rfl,dv⟩
       ·cases hs
      ·cases hs
     ·rename_i e2 hT;cases hs;refine ic _ _ _ hT _ _ _ _ H' _ Rx.rebase fun H2 S2 k2=>?_;rw [Im (by decide)];have R2:=Rx.bL S2;obtain ⟨ex,e2',kx⟩:=k2.front (ds:=[d]);subst e2';have p12:Pr (FF F0 e1 σ) H' H2:=by have:=Rx.pL S2.dX;rwa [frontF (KpE.refl _)] at this
      exact hN () _ H2 trivial (R2.behind (pre:=[.dat d]) (ps:=[some x]) (fun s hs=>by rw [Iq.mp hs];trivial) rfl) kx p12 rfl
     ·cases hs
    ·intro acc H' R' hd hz p hp;have eF:=(bw e1 js ec).ff (F0:=F0) (σ:=σ);have s:=aY.nw (.lst acc) hp;exact q _ _ (R'.same s) (k1.trans (bw e1 js ec).kp) (R'.mF (pr:=.frs (.list ys)) s ⟨p,rfl,hp,acc,aF,hz,by rw [eF];exact (hd.fresh hp).pr (Pr.of_same s) fun _ z=>z⟩)
   ·cases h
  ·cases h
 ·cases h
def Ad:St->Nat->List V->St
 | σ,_,[]=>σ
 | σ,k,v :: vs=>Ad (σ.set k (some v)) (k+1) vs
theorem lM:∀ {vs:List V} {k:Nat} {σ:St} {H:Hp} {Q:St->Hp->Prop},Q (Ad σ k vs) H->gNs (List.range' k vs.length) vs σ H Q
 | [],_,_,_,_,h=>⟨rfl,h⟩
 | v :: vs,k,σ,H,Q,h=>⟨v,vs,rfl,lM (vs:=vs) (k:=k+1) h⟩
theorem pU:∀ {vs:List V} {pre hd tl:St},hd.length=vs.length->Ad (pre++(hd++tl)) pre.length vs=pre++(vs.map some++tl)
 | [],pre,hd,tl,h=>by
  have:hd=[]:=IV h;subst this;rfl
 | v :: vs,pre,[],tl,h=>by cases h
 | v :: vs,pre,x :: hd,tl,h=>by
  have hl:hd.length=vs.length:=by simpa using h
  have e:(pre++(x :: hd++tl)).set pre.length (some v)=(pre++[some v])++(hd++tl):=by
   rw [List.set_append_right _ _ (Iv _)];simp
  unfold Ad;rw [e];have:=pU (vs:=vs) (pre:=pre++[some v]) (hd:=hd) (tl:=tl) hl;rw [Ic] at this;rw [show pre.length+1=pre.length+[some v].length from rfl,this];simp
theorem sP (n:List Str):(uR n).length=n.length:=by unfold uR;rw [Ig]
theorem z7 {n:List Str} {js:List Nat} {it:XI} {e:XE} (ii:SI K ga gd it) (ie:SE K ga gd e):SE K ga gd (.AY n js it e):=by
 intro env rv env' h F0 H₀ I σ H Q R q;simp only [dE] at h;split at h
 ·rename_i ds lock e1 h1;split at h
  ·rename_i nd;split at h
   ·rename_i ys ec h2;cases h;refine ii _ _ _ _ h1 F0 H₀ I σ H _ R fun J H1 R1 k1 _ hit=>?_;refine Exists.elim (rR (Q:=Q) (τ:=St) (TI:=fun t=>∃ hd:St,hd.length=n.length/\t=hd++bS js σ) (t0:=uR n++bS js σ) (body:=fun t acc x H' N=>gTp K (List.range n.length) x t H' fun σ2 H2=>rE K ga e σ2 H2 fun y H3=>N σ2 (acc++[y]) H3) ⟨uR n,sP n,rfl⟩ R1 nd hit h2 ?_ ?_) fun W hw=>?_
    rotate_right 1
    ·obtain ⟨w0,hW⟩:=hw;exact ⟨W,w0,hW⟩
    ·rintro t acc d envc y envc' x H' ⟨hd,hl,rfl⟩ hs Rc no hdx N hN;have eF:FF (FF F0 e1 σ) envc (bS js σ)=FF F0 e1 σ:=dr no;unfold lz at hs;split at hs
     ·rename_i xs;split at hs
      ·rename_i hxl;split at hs
       ·rename_i rv e3 hE;split at hs
        ·rename_i dy hv;cases hs;obtain ⟨a,vs,rfl,hq,hz,hdl⟩:=hdx;have hvl:vs.length=n.length:=by rw [hdl.len,hxl]
         refine ⟨a,vs,rfl,hq,by rw [Js];exact hvl,?_⟩;rw [List.range_eq_range',<-hvl];refine lM ?_;have es:Ad (hd++bS js σ) 0 vs=vs.map some++bS js σ:=pU (pre:=[]) (by rw [hl,hvl]);rw [es];have Rx:Rel K (FF F0 e1 σ) H1 (IA (ft e1 lock js) (bS js σ)) (xs.map .dat++envc) (vs.map some++bS js σ) H':=Rc.front (by rw [eF];exact hdl);have hpre:∀ s∈(xs.map Sl.dat),qT s:=fun s hs=>by obtain ⟨d,_,rfl⟩:=Jn.mp hs;trivial
         have hpl:(xs.map Sl.dat).length=(vs.map some).length:=by rw [Ig,Ig,hdl.len]
         have frontF:∀ {e2:En},KpE envc e2->FF (FF F0 e1 σ) (xs.map .dat++e2) (vs.map some++bS js σ)=FF F0 e1 σ:=fun {e2} k=>(iM hpre hpl).trans (dr (no.kp k));refine ie _ _ _ hE _ _ _ _ H' _ Rx.rebase fun v H3 S3 k3 r3=>?_;have R3:=Rx.bL S3;obtain ⟨ex,e3',kx⟩:=k3.front;subst e3';have p:Pr (FF F0 e1 σ) H' H3:=by have:=Rx.pL S3.dX;rwa [frontF (KpE.refl _)] at this
         have a3:=r3.av;rw [hv] at a3;have dv:Dm K (FF F0 e1 σ) H3 dy v:=by
          have:Dm K (FF (FF F0 e1 σ) (xs.map .dat++ex) (vs.map some++bS js σ)) H3 dy v:=a3
          rwa [frontF kx] at this
         have ed:(xs.map Sl.dat++ex).drop n.length=ex:=by rw [<- hxl,<-Ig (f:=Sl.dat),KH]
         rw [ed] at hN;exact hN _ _ H3 ⟨vs.map some,by rw [Ig];exact hvl,rfl⟩ (R3.behind hpre hpl) kx p ⟨v,rfl,dv⟩
        ·cases hs
       ·cases hs
      ·cases hs
     ·cases hs
    ·intro acc H' R' hd hz p hp;have eF:=(bw e1 js ec).ff (F0:=F0) (σ:=σ);have s:=aY.nw (.lst acc) hp;exact q _ _ (R'.same s) (k1.trans (bw e1 js ec).kp) (R'.mF (pr:=.frs (.list ys)) s ⟨p,rfl,hp,acc,aF,hz,by rw [eF];exact (hd.fresh hp).pr (Pr.of_same s) fun _ z=>z⟩)
   ·cases h
  ·cases h
 ·cases h
mutual
theorem sE (hg:∀ g d,gd[g]?=some d->∀ F H,Dm K F H d (ga g)):∀ e:XE,SE K ga gd e
 | .var i=>Gd i | .mov i=>Gi i | .tke i=>Fj i | .cst c=>E3 c | .glb g=>DT hg g
 | .prm p as=>Ey (sA hg as) | .met m o as=>EY (sE hg o) (sA hg as) | .mtr m i as=>F7 (sA hg as) | .call f as=>s_call (sA hg as)
 | .tup as=>DZ (sA hg as) | .lst as=>FU (sA hg as) | .dsp as=>D3 (sPs hg as) | .fst as=>Gu (sF hg as)
 | .ifx c a b=>Fp (sT hg c) (sE hg a) (sE hg b) | .ug a b=>Ak (sE hg a) (sE hg b) | .orv a b=>Ga (sE hg a) (sE hg b) | .zV a=>BQ (sE hg a)
 | .chn p q a b c=>E4 (sE hg a) (sE hg b) (sE hg c) | .sl2 p a b c=>DM (sE hg a) (sE hg b) (sE hg c)
 | .cmp js it c e=>Fq (sI hg it) (sT hg c) (sE hg e) | .AY n js it e=>z7 (sI hg it) (sE hg e)
theorem sA (hg:∀ g d,gd[g]?=some d->∀ F H,Dm K F H d (ga g)):∀ e:XA,SA K ga gd e
 | .nil=>EL | .cons e r=>Bd (sE hg e) (sA hg r)
theorem sF (hg:∀ g d,gd[g]?=some d->∀ F H,Dm K F H d (ga g)):∀ e:XA,SF K ga gd e
 | .nil=>Fe | .cons e r=>Cy (sE hg e) (sF hg r)
theorem sPs (hg:∀ g d,gd[g]?=some d->∀ F H,Dm K F H d (ga g)):∀ e:XP,SPs K ga gd e
 | .nil=>FX | .cons k e r=>CD (sE hg k) (sE hg e) (sPs hg r)
theorem sT (hg:∀ g d,gd[g]?=some d->∀ F H,Dm K F H d (ga g)):∀ e:XT,ST K ga gd e
 | .tst e=>EM (sE hg e) | .tru e=>F4 (sE hg e) | .and a b=>E5 (sT hg a) (sT hg b) | .or a b=>HU (sT hg a) (sT hg b) | .not a=>Gr (sT hg a) | .yes=>EV
theorem sI (hg:∀ g d,gd[g]?=some d->∀ F H,Dm K F H d (ga g)):∀ e:XI,SI K ga gd e
 | .lst e=>zQ (sE hg e) | .tup e=>CZ (sE hg e) | .str e=>EI (sE hg e) | .rng1 as=>AE (sA hg as) | .rng2 as=>BJ (sA hg as) | .dct e=>FY (sE hg e) | .sq e=>HA (sE hg e) | .zip as=>Fi (sA hg as)
end
end
end L2
end
section
namespace L2
open PySem
section
variable {K:Fg} {F F' I I' F0:Addr->Prop} {H H' H₀ H1:Hp} {env env' e1:En} {σ σ':St} {ga:Nat->V} {gd:List PyData}
theorem LsF.bE {a:Addr} {xs:List V} (h:LsF K F H a xs):LsF K (fun b=>F b\/H b=none) H a xs:=by
 rcases h with ⟨n,h⟩ | h
 ·refine .inl ⟨fun z=>z.elim n fun e=>?_,h⟩;rcases h with h | ⟨o,h⟩ <;> (rw [e] at h;cases h)
 ·exact .inr h
mutual
theorem Dm.bE:∀ {d:PyData} {v:V},Dm K F H d v->Dm K (fun b=>F b\/H b=none) H d v
 | .none,v,h=>h
 | .bool b,v,h=>h
 | .int i,v,h=>h
 | .str x,v,h=>h
 | .list ds,v,h=>by
  obtain ⟨a,xs,e,l,z,r⟩:=h;exact ⟨a,xs,e,l.bE,z,DmL.bE r⟩
 | .tuple ds,v,h=>by
  obtain ⟨a,xs,e,l,z,r⟩:=h;exact ⟨a,xs,e,l,z,DmL.bE r⟩
 | .dict kvs,v,h=>by
  obtain ⟨a,ep,xs,e,n,l,z,r⟩:=h;exact ⟨a,ep,xs,e,fun q=>q.elim n fun q=>(by rw [q] at l;cases l),l,z,DmP.bE r⟩
theorem DmL.bE:∀ {ds:List PyData} {vs:List V},DmL K F H ds vs->DmL K (fun b=>F b\/H b=none) H ds vs
 | [],vs,h=>h
 | d :: ds,vs,h=>by
  obtain ⟨v,r,e,h1,h2⟩:=h;exact ⟨v,r,e,Dm.bE h1,DmL.bE h2⟩
theorem DmP.bE:∀ {ds:List (PyData×PyData)} {vs:List (PyData×V×V)},DmP K F H ds vs->DmP K (fun b=>F b\/H b=none) H ds vs
 | [],vs,h=>h
 | (k,d) :: ds,vs,h=>by
  obtain ⟨j,v,r,e,e2,h0,h1,h2⟩:=h;exact ⟨j,v,r,e,e2,Dm.bE h0,Dm.bE h1,DmP.bE h2⟩
end
theorem Top.bE {d:PyData} {a:Addr} (h:Top K F H d a):Top K (fun b=>F b\/H b=none) H d a:=by
 cases d with
 | list ds=>obtain ⟨xs,e,z,r⟩:=h;exact ⟨xs,e,z,r.bE⟩
 | dict ds=>obtain ⟨ep,xs,e,z,r⟩:=h;exact ⟨ep,xs,e,z,r.bE⟩
 | _=>exact absurd h id
theorem fZ.bE {d:PyData} {a:Addr} (h:fZ K F I H d a):fZ K (fun b=>F b\/H b=none) (fun b=>I b\/H b=none) H d a:=by
 cases d with
 | list ds=>obtain ⟨xs,e,z,r⟩:=h;exact ⟨xs,e.bE,z,r.bE⟩
 | dict ds =>
  obtain ⟨ep,xs,n,e,z,r⟩:=h;exact ⟨ep,xs,fun q=>q.elim n fun q=>(by rw [q] at e;cases e),e,z,r.bE⟩
 | _=>exact absurd h id
theorem Pr.GR (p:Pr F H H') (h:∀ b,F b->F' b):Pr F' H H':=fun b o e n=>p b o e (n.imp (fun z q=>z (h _ q)) id)
def Evs:Sl->Sl->Prop
 | .ino _,s=>∃ d,s=.ino d
 | .ro d,s=>s=.ro d
 | _,s=>(∀ d,s≠.ino d)/\∀ d,s≠.ro d
def Ao:Sl->Prop | .ino _=>True | .ro _=>True | _=>False
def KpS (env:En) (σ:St) (env':En) (σ':St):Prop:=env'.length=env.length/\∀ (i:Nat) (s:Sl),env[i]?=some s->∃ s',env'[i]?=some s'/\Evs s s'/\(Ao s->σ'[i]?=σ[i]?)
theorem Evs.refl:∀ s,Evs s s
 | .un=>⟨fun _=>nofun,fun _=>nofun⟩
 | .dat _=>⟨fun _=>nofun,fun _=>nofun⟩
 | .own d=>⟨fun _=>nofun,fun _=>nofun⟩
 | .ino d=>⟨d,rfl⟩
 | .ro _=>rfl
def soft (s:Sl):Prop:=(∀ d,s≠.ino d)/\∀ d,s≠.ro d
theorem Evs.soft {s s':Sl} (h:Evs s s') (q:L2.soft s):L2.soft s':=by
 cases s with
 | ino d=>exact absurd rfl (q.1 d)
 | ro d=>exact absurd rfl (q.2 d)
 | _=>exact h
theorem Evs.of {s s':Sl} (q:L2.soft s) (q':L2.soft s'):Evs s s':=by
 cases s with
 | ino d=>exact absurd rfl (q.1 d)
 | ro d=>exact absurd rfl (q.2 d)
 | _=>exact q'
theorem Evs.trans {a b c:Sl} (h:Evs a b) (q:Evs b c):Evs a c:=by
 cases a with
 | ino d=>obtain ⟨d',rfl⟩:=h;exact q
 | ro d=>rw [show b=.ro d from h] at q;exact q
 | un=>exact Evs.of ⟨fun _=>nofun,fun _=>nofun⟩ (q.soft h)
 | dat _=>exact Evs.of ⟨fun _=>nofun,fun _=>nofun⟩ (q.soft h)
 | own _=>exact Evs.of ⟨fun _=>nofun,fun _=>nofun⟩ (q.soft h)
theorem Evs.Ao {a b:Sl} (h:Evs a b) (q:L2.Ao a):L2.Ao b:=by
 cases a with
 | ino d=>obtain ⟨d',rfl⟩:=h;trivial
 | ro d=>rw [show b=.ro d from h];trivial
 | _=>exact absurd q id
theorem KpS.refl (env:En) (σ:St):KpS env σ env σ:=⟨rfl,fun i s e=>⟨s,e,.refl s,fun _=>rfl⟩⟩
theorem KpS.trans {a b c:En} {x y z:St} (h:KpS a x b y) (q:KpS b y c z):KpS a x c z:=⟨q.1.trans h.1,fun i s e=>by
 obtain ⟨s1,e1,v1,w1⟩:=h.2 i s e;obtain ⟨s2,e2,v2,w2⟩:=q.2 i s1 e1
 exact ⟨s2,e2,v1.trans v2,fun t=>(w2 (v1.Ao t)).trans (w1 t)⟩⟩
theorem KpE.s (k:KpE env env'):KpS env σ env' σ:=⟨k.1,fun i s e=>by
 obtain ⟨s',e',v⟩:=k.2 i s e;refine ⟨s',e',?_,fun _=>rfl⟩;cases s with
 | un=>rw [show s'=.un from v];exact .refl _
 | dat d=>rw [show s'=.dat d from v];exact .refl _
 | own d=>rcases v with ⟨d',rfl⟩ | ⟨d',rfl⟩ | rfl <;> exact ⟨fun _=>nofun,fun _=>nofun⟩
 | ino d=>exact v
 | ro d=>exact v⟩
theorem jJ {i:Nat} (h:free env i=true):∃ s,env[i]?=some s/\L2.soft s:=by
 unfold free at h;split at h
 ·rename_i e;exact ⟨_,e,fun _=>nofun,fun _=>nofun⟩
 ·rename_i e;exact ⟨_,e,fun _=>nofun,fun _=>nofun⟩
 ·rename_i e;exact ⟨_,e,fun _=>nofun,fun _=>nofun⟩
 ·cases h
theorem rN {i:Nat} {s s':Sl} {x:Option V} (e:env[i]?=some s) (q:L2.soft s) (q':L2.soft s'):KpS env σ (env.set i s') (σ.set i x):=by
 have hi:i < env.length:=(Ie.mp e).1;refine ⟨IW,fun j t h=>?_⟩;by_cases z:i=j
 ·subst z;rw [e] at h;cases h;refine ⟨s',Ir hi,.of q q',fun t=>?_⟩;cases s with
  | ino d=>exact absurd rfl (q.1 d)
  | ro d=>exact absurd rfl (q.2 d)
  | _=>exact absurd t id
 ·exact ⟨t,by rw [Ih z];exact h,.refl t,fun _=>by rw [Ih z]⟩
def mC (K:Fg) (F0:Addr->Prop) (H₀:Hp) (I:Addr->Prop) (env:En) (σ:St) (D:Ends):Out->Prop
 | .nx e=>∀ σ' H',Rel K F0 H₀ I e σ' H'->KpS env σ e σ'->D.nx σ' H'
 | .bk e=>∀ σ' H',Rel K F0 H₀ I e σ' H'->KpS env σ e σ'->D.bk σ' H'
 | .ct e=>∀ σ' H',Rel K F0 H₀ I e σ' H'->KpS env σ e σ'->D.ct σ' H'
 | .rt rv e=>∀ v σ' H',Rel K F0 H₀ I e σ' H'->KpS env σ e σ'->fj K F0 H₀ I e σ' H' rv v->D.rt v H'
def SS (K:Fg) (ga:Nat->V) (gd:List PyData) (s:XS):Prop:=∀ (env:En) (out:Out),dS gd s env=some out->∀ (F0:Addr->Prop) (H₀:Hp) (I:Addr->Prop) (σ:St) (H:Hp) (D:Ends),Rel K F0 H₀ I env σ H->mC K F0 H₀ I env σ D out->rS K ga s D σ H
theorem mC.from {D:Ends} {out:Out} (k:KpS env σ env' σ') (h:mC K F0 H₀ I env σ D out):mC K F0 H₀ I env' σ' D out:=by
 cases out with
 | nx e=>exact fun s h1 r q=>h s h1 r (k.trans q)
 | bk e=>exact fun s h1 r q=>h s h1 r (k.trans q)
 | ct e=>exact fun s h1 r q=>h s h1 r (k.trans q)
 | rt rv e=>exact fun v s h1 r q w=>h v s h1 r (k.trans q) w
theorem Ca {a b:XS} (ia:SS K ga gd a) (ib:SS K ga gd b):SS K ga gd (.seq a b):=by
 intro env out h F0 H₀ I σ H D R q;simp only [dS] at h;split at h
 ·rename_i e h1;refine ia _ _ h1 F0 H₀ I σ H _ R fun σ' H' R' k'=>?_;exact ib _ _ h F0 H₀ I σ' H' D R' (q.from k')
 ·rename_i hn;refine ia _ _ h F0 H₀ I σ H _ R ?_;cases out with
  | nx e=>exact absurd h (hn e)
  | bk e=>exact q
  | ct e=>exact q
  | rt rv e=>exact q
theorem Rel.Fs (R:Rel K F0 H₀ I env σ H) {i:Nat} {d:PyData} {v:V} (hf:free env i=true) (h:Dm K (FF F0 env σ) H d v):Rel K F0 H₀ I (env.set i (.dat d)) (σ.set i (some v)) H/\KpS env σ (env.set i (.dat d)) (σ.set i (some v)):=by
 obtain ⟨s,e,q⟩:=jJ hf;have hi:i < env.length:=(Ie.mp e).1;have R1:=R.forget i (some v);have:=R1.putD (i:=i) (d:=d) (v:=v) (Ir hi) (h.mono (R.sub i _).1);rw [JH,JH] at this;exact ⟨this,rN e q ⟨fun _=>nofun,fun _=>nofun⟩⟩
theorem yk {i:Nat} {e:XE} (ie:SE K ga gd e):SS K ga gd (.fq i e):=by
 intro env out h F0 H₀ I σ H D R q;simp only [dS] at h;split at h
 ·rename_i rv e1 h1;split at h
  ·rename_i d hv;split at h
   ·rename_i hf;cases h;refine ie _ _ _ h1 F0 H₀ I σ H _ R fun v H1 R1 k1 r1=>?_;have a1:=r1.av;rw [hv] at a1;obtain ⟨R2,k2⟩:=R1.Fs hf (show Dm K _ H1 d v from a1);exact q _ H1 R2 (k1.s.trans k2)
   ·cases h
  ·cases h
 ·cases h
theorem fj.forget {d:PyData} {v:V} (h:fj K F0 H₀ I env σ H (.frs d) v) (i:Nat) (x:Option V) (hs:∀ s,env[i]?=some s->L2.soft s):fj K F0 H₀ I (env.set i .un) (σ.set i x) H (.frs d) v:=by
 obtain ⟨a,ea,R,t,w,nF,hi,hr⟩:=h;have R0:=R.less hi;obtain ⟨hf,hia⟩:=R0.sub i x;have hf':∀ b,(FF F0 (env.set i .un) (σ.set i x) b\/b=a)->(FF F0 env σ b\/b=a):=fun b z=>z.imp (hf b) id;refine ⟨a,ea,R.forget i x,t.pr Pr.refl hf' fun _ z=>z,w,fun z=>nF (hf _ z),fun j c e s=>?_,fun j c e=>?_⟩
 ·rcases get_set e with ⟨_,z⟩ | ⟨n,e⟩
  ·cases z
  ·rw [Ih n] at s;exact hi j c e s
 ·rcases get_set e with ⟨_,z⟩ | ⟨n,e⟩
  ·cases z
  ·obtain ⟨b,s,r⟩:=hr j c e;exact ⟨b,by rw [Ih n];exact s,r.pr Pr.refl hf' (fun b z=>z.imp (hia b) id) fun _ _ z _=>z⟩
theorem zt {i:Nat} {e:XE} (ie:SE K ga gd e):SS K ga gd (.x8 i e):=by
 intro env out h F0 H₀ I σ H D R q;simp only [dS] at h;split at h
 ·rename_i d e1 h1;split at h
  ·rename_i hf;cases h;refine ie _ _ _ h1 F0 H₀ I σ H _ R fun v H1 R1 k1 r1=>?_;obtain ⟨s,e,qs⟩:=jJ hf;have hi:i < e1.length:=(Ie.mp e).1;have ev:∃ a,v=.ref a:=let ⟨a,e,_⟩:=r1;⟨a,e⟩
   obtain ⟨a,rfl⟩:=ev;have r2:=r1.forget i (some (.ref a)) (fun s' h=>by rw [e] at h;cases h;exact qs);have R2:=Rel.Gx (i:=i) (Ir hi) r2;rw [JH,JH] at R2;exact q _ H1 R2 (k1.s.trans (rN e qs ⟨fun _=>nofun,fun _=>nofun⟩))
  ·cases h
 ·cases h
theorem nX:∀ {is:List Nat} {ds:List PyData} {vs:List V} {env env':En} {σ:St} {Q:St->Hp->Prop},gu env is ds=some env'->Rel K F0 H₀ I env σ H->DmL K (FF F0 env σ) H ds vs->(∀ σ',Rel K F0 H₀ I env' σ' H->KpS env σ env' σ'->Q σ' H)->gNs is vs σ H Q
 | [],[],vs,env,env',σ,Q,h,R,hd,q=>by
  cases h;exact ⟨hd,q σ R (KpS.refl _ _)⟩
 | [],d :: ds,vs,env,env',σ,Q,h,R,hd,q=>by cases h
 | i :: is,[],vs,env,env',σ,Q,h,R,hd,q=>by cases h
 | i :: is,d :: ds,vs,env,env',σ,Q,h,R,hd,q=>by
  unfold gu at h;split at h
  ·rename_i hf;obtain ⟨v,r,rfl,h1,h2⟩:=hd;obtain ⟨R1,k1⟩:=R.Fs hf h1;obtain ⟨s,e,qs⟩:=jJ hf;refine ⟨v,r,rfl,?_⟩;refine nX h R1 (h2.mono fun b z=>?_) fun σ' R' k'=>q σ' R' (k1.trans k');rcases z with z | ⟨j,c,e',s'⟩
   ·exact .inl z
   ·rcases get_set e' with ⟨_,y⟩ | ⟨n,e'⟩
    ·cases y
    ·rw [Ih n] at s';exact .inr ⟨j,c,e',s'⟩
  ·cases h
theorem zA {is:List Nat} {e:XE} (ie:SE K ga gd e):SS K ga gd (.Df is e):=by
 intro env out h F0 H₀ I σ H D R q;simp only [dS] at h;split at h
 ·rename_i rv e1 h1;split at h
  ·rename_i ds hv;split at h
   ·rename_i e2 hset;cases h;refine ie _ _ _ h1 F0 H₀ I σ H _ R fun v H1 R1 k1 r1=>?_;have a1:=r1.av;rw [hv] at a1;obtain ⟨a,xs,rfl,l,z,r⟩:=(show Dm K (FF F0 e1 σ) H1 (.tuple ds) v from a1);have hlen:∀ {is:List Nat} {ds:List PyData} {e e':En},gu e is ds=some e'->is.length=ds.length:=by
     intro is;induction is with
     | nil=>intro ds e e' h;cases ds with
      | nil=>rfl
      | cons _ _=>cases h
     | cons i is ih=>intro ds e e' h;cases ds with
      | nil=>cases h
      | cons d ds =>
       unfold gu at h;split at h
       ·rw [IH,IH,ih h]
       ·cases h
    exact ⟨a,xs,rfl,l,by rw [r.len,hlen hset],nX hset R1 r fun σ' R' k'=>q σ' H1 R' (k1.s.trans k')⟩
   ·cases h
  ·cases h
 ·cases h
theorem zi {e:XE} (ie:SE K ga gd e):SS K ga gd (.drop e):=by
 intro env out h F0 H₀ I σ H D R q;simp only [dS] at h;split at h
 ·rename_i rv e1 h1;cases h;exact ie _ _ _ h1 F0 H₀ I σ H _ R fun v H1 R1 k1 r1=>q σ H1 R1 k1.s
 ·cases h
theorem Aq {e:XE} (ie:SE K ga gd e):SS K ga gd (.ret e):=by
 intro env out h F0 H₀ I σ H D R q;simp only [dS] at h;split at h
 ·rename_i rv e1 h1;cases h;exact ie _ _ _ h1 F0 H₀ I σ H _ R fun v H1 R1 k1 r1=>q v σ H1 R1 k1.s r1
 ·cases h
theorem B7 {c:XT} {a b:XS} (ic:ST K ga gd c) (ia:SS K ga gd a) (ib:SS K ga gd b):SS K ga gd (.ifs c a b):=by
 intro env out h F0 H₀ I σ H D R q;simp only [dS] at h;split at h
 ·rename_i e1 h1;refine ic _ _ _ h1 F0 H₀ I σ H _ R fun H1 R1 k1=>?_;rw [Ip rfl];exact ia _ _ h F0 H₀ I σ H1 D R1 (q.from k1.s)
 ·rename_i e1 h1;refine ic _ _ _ h1 F0 H₀ I σ H _ R fun H1 R1 k1=>?_;rw [Im (by decide)];exact ib _ _ h F0 H₀ I σ H1 D R1 (q.from k1.s)
 ·cases h
theorem CO {m:xI} {i:Nat} {k e:XE} (ik:SE K ga gd k) (ie:SE K ga gd e):SS K ga gd (.sto m i k e):=by
 intro env out h F0 H₀ I σ H D R q;simp only [dS] at h;split at h
 ·rename_i rv e1 h1;split at h
  ·rename_i x hv;split at h
   ·rename_i d0 hm0;split at h
    ·rename_i rk e2 h2;split at h
     ·rename_i dk d hvk hm;split at h
      ·rename_i d' hf;cases h;refine ie _ _ _ h1 F0 H₀ I σ H _ R fun v H1 R1 k1 r1=>?_;obtain ⟨_,a,s,_⟩:=R1.dQ hm0;refine ⟨.ref a,s,?_⟩;refine ik _ _ _ h2 F0 _ _ σ H1 _ R1.rebase fun u H2 S2 k2 r2=>?_;have R2:=R1.bL S2;have a1:=r1.av;rw [hv] at a1;have dx:=R1.pN S2 k2 (show Dm K _ H1 x v from a1);obtain ⟨m2,a',s',f2,t2⟩:=R2.dQ hm;rw [s] at s';cases s';refine m.ok K _ H2 d a dk x u v d' _ hf f2 t2 (r2.av.vw R2 hvk) dx fun H3 hk ht=>?_;exact q σ H3 (R2.Gz hm s hk ht) ((k1.trans k2).trans (se _ _ _)).s
      ·cases h
     ·cases h
    ·cases h
   ·cases h
  ·cases h
 ·cases h
theorem F8 {n:Nat} {c:XT} {b:XS} (ic:ST K ga gd c) (ib:SS K ga gd b):SS K ga gd (.wh n c b):=by
 intro env out h F0 H₀ I σ H D R q;simp only [dS] at h;refine ⟨fun m σ' H'=>∃ env',whL (dT gd c) (dS gd b) m env'=some out/\Rel K F0 H₀ I env' σ' H'/\KpS env σ env' σ',⟨n,env,h,R,KpS.refl _ _⟩,?_⟩;rintro m σ' H' ⟨env',hw,R',k'⟩;cases m with
 | zero=>cases hw
 | succ m =>
  unfold whL at hw;split at hw
  ·rename_i e1 h1;refine ic _ _ _ h1 F0 H₀ I σ' H' _ R' fun H2 R2 k2=>?_;rw [Ip rfl];refine ⟨fun σ3 H3=>∃ env3,whL (dT gd c) (dS gd b) m env3=some out/\Rel K F0 H₀ I env3 σ3 H3/\KpS env σ env3 σ3,fun σ3 H3 z=>⟨m,Kg _,z⟩,?_⟩;split at hw
   ·rename_i e hb;exact ib _ _ hb F0 H₀ I σ' H2 _ R2 fun σ3 H3 R3 k3=>⟨e,hw,R3,(k'.trans k2.s).trans k3⟩
   ·rename_i e hb;exact ib _ _ hb F0 H₀ I σ' H2 _ R2 fun σ3 H3 R3 k3=>⟨e,hw,R3,(k'.trans k2.s).trans k3⟩
   ·rename_i e hb;cases hw;exact ib _ _ hb F0 H₀ I σ' H2 _ R2 fun σ3 H3 R3 k3=>q σ3 H3 R3 ((k'.trans k2.s).trans k3)
   ·rename_i r e hb;cases hw;exact ib _ _ hb F0 H₀ I σ' H2 _ R2 fun v σ3 H3 R3 k3 r3=>q v σ3 H3 R3 ((k'.trans k2.s).trans k3) r3
   ·cases hw
  ·rename_i e1 h1;cases hw;refine ic _ _ _ h1 F0 H₀ I σ' H' _ R' fun H2 R2 k2=>?_;rw [Im (by decide)];exact q σ' H2 R2 (k'.trans k2.s)
  ·cases hw
end
end L2
end
section
namespace L2
open PySem
section
variable {K:Fg} {F F' I I' F0:Addr->Prop} {H H' H₀ H1:Hp} {env env' e1:En} {σ σ':St} {ga:Nat->V} {gd:List PyData}
theorem Rel.DP (R:Rel K F0 H₀ I env σ H) (h:∀ b,I b->I' b):Rel K F0 H₀ I' env σ H :=
 ⟨R.len,R.dat,fun i d e=>let ⟨a,s,n,w,t⟩:=R.own i d e;⟨a,s,n,w.imp id (h _),t⟩,fun i d e=>let ⟨a,s,n,w,t⟩:=R.ino i d e;⟨a,s,n,h _ w,t⟩,R.ro,R.sep,R.dom,fun b o e n=>R.dX b o e fun z=>n (h _ z)⟩
theorem Rel.eqF {F1:Addr->Prop} (R:Rel K F0 H₀ I env σ H) (h:∀ b,F0 b↔F1 b):Rel K F1 H₀ I env σ H:=by
 have:F0=F1:=funext fun b=>propext (h b);exact this▸R
theorem Rel.Eb (R:Rel K F0 H₀ I env σ H) {i:Nat} {d:PyData} {a:Addr} (hu:env[i]?=some .un) (s:σ[i]?=some (some (.ref a))) (h:fZ K (FF F0 env σ) (IA env σ) H d a):Rel K F0 H₀ I (env.set i (.ro d)) σ H:=by
 have hi:i < env.length:=(Ie.mp hu).1;have eF:FF F0 (env.set i (.ro d)) σ=FF F0 env σ:=by
  have:=ku (F0:=F0) (σ:=σ) (s:=.ro d) (x:=some (.ref a)) hu (fun _=>nofun)
  rwa [set_same s] at this
 have eI:IA (env.set i (.ro d)) σ=IA env σ:=by
  have:=rm (σ:=σ) (s:=.ro d) (x:=some (.ref a)) hu (fun _=>⟨nofun,nofun⟩)
  rwa [set_same s] at this
 have mm:∀ j,mu (env.set i (.ro d)) j->mu env j:=fun j h=>by
  obtain ⟨c,e | e⟩:=h
  ·rcases get_set e with ⟨_,z⟩ | ⟨n,e⟩
   ·cases z
   ·exact ⟨c,.inl e⟩
  ·rcases get_set e with ⟨_,z⟩ | ⟨n,e⟩
   ·cases z
   ·exact ⟨c,.inr e⟩
 refine ⟨by rw [IW];exact R.len,fun j c e=>?_,fun j c e=>?_,fun j c e=>?_,fun j c e=>?_,fun j k b h1 h2 h3 h4=>R.sep j k b (mm j h1) (mm k h2) h3 h4,R.dom,R.dX⟩
 ·rw [eF];rcases get_set e with ⟨_,z⟩ | ⟨n,e⟩
  ·cases z
  exact R.dat j c e
 ·rw [eF];rcases get_set e with ⟨_,z⟩ | ⟨n,e⟩
  ·cases z
  exact R.own j c e
 ·rw [eF];rcases get_set e with ⟨_,z⟩ | ⟨n,e⟩
  ·cases z
  exact R.ino j c e
 ·rw [eF,eI];rcases get_set e with ⟨z,y⟩ | ⟨n,e⟩
  ·subst z;cases y;exact ⟨a,s,h⟩
  exact R.ro j c e
theorem Rel.HS (R:Rel K F0 H₀ I env σ H) {i:Nat} {d:PyData} {a:Addr} (hu:env[i]?=some .un) (s:σ[i]?=some (some (.ref a))) (h:Top K (FF F0 env σ) H d a) (hF:F0 a) (hI:I a) (na:∀ j,mu env j->σ[j]?≠some (some (.ref a)))
  (hro:∀ (j:Nat) (c:PyData),env[j]?=some (.ro c)->∃ b,σ[j]?=some (some (.ref b))/\fZ K (FF F0 env σ) (fun b=>IA env σ b\/b=a) H c b):Rel K F0 H₀ I (env.set i (.ino d)) σ H:=by
 have hi:i < env.length:=(Ie.mp hu).1;have eF:FF F0 (env.set i (.ino d)) σ=FF F0 env σ:=by
  have:=ku (F0:=F0) (σ:=σ) (s:=.ino d) (x:=some (.ref a)) hu (fun _=>nofun)
  rwa [set_same s] at this
 have mm:∀ j,mu (env.set i (.ino d)) j->i=j\/(mu env j/\i≠j):=fun j h=>by
  obtain ⟨c,e | e⟩:=h
  ·rcases get_set e with ⟨z,_⟩ | ⟨n,e⟩
   ·exact .inl z
   ·exact .inr ⟨⟨c,.inl e⟩,n⟩
  ·rcases get_set e with ⟨z,_⟩ | ⟨n,e⟩
   ·exact .inl z
   ·exact .inr ⟨⟨c,.inr e⟩,n⟩
 have eI:∀ b,IA (env.set i (.ino d)) σ b->IA env σ b\/b=a:=by
  rintro b ⟨j,m,q⟩;rcases mm j m with z | ⟨m',n⟩
  ·subst z;rw [s] at q;cases q;exact .inr rfl
  ·exact .inl ⟨j,m',q⟩
 refine ⟨by rw [IW];exact R.len,fun j c e=>?_,fun j c e=>?_,fun j c e=>?_,fun j c e=>?_,fun j k b h1 h2 h3 h4=>?_,R.dom,R.dX⟩
 ·rw [eF];rcases get_set e with ⟨_,z⟩ | ⟨n,e⟩
  ·cases z
  exact R.dat j c e
 ·rw [eF];rcases get_set e with ⟨_,z⟩ | ⟨n,e⟩
  ·cases z
  exact R.own j c e
 ·rw [eF];rcases get_set e with ⟨z,y⟩ | ⟨n,e⟩
  ·subst z;cases y;exact ⟨a,s,hF,hI,h⟩
  exact R.ino j c e
 ·rw [eF];rcases get_set e with ⟨_,z⟩ | ⟨n,e⟩
  ·cases z
  obtain ⟨b,q,r⟩:=hro j c e;exact ⟨b,q,r.pr Pr.refl (fun _ z=>z) eI fun _ _ z _=>z⟩
 ·rcases mm j h1 with z1 | ⟨m1,n1⟩
  ·rcases mm k h2 with z2 | ⟨m2,n2⟩
   ·rw [<- z1,<-z2]
   ·rw [<- z1,s] at h3;cases h3;exact absurd h4 (na k m2)
  ·rcases mm k h2 with z2 | ⟨m2,n2⟩
   ·rw [<- z2,s] at h4;cases h4;exact absurd h3 (na j m1)
   ·exact R.sep j k b m1 m2 h3 h4
structure Lk (K:Fg) (F0:Addr->Prop) (H₀:Hp) (I:Addr->Prop) (e1:En) (σ:St) (H1:Hp) (lock:Option Nat) (F1:Addr->Prop):Prop where
 rel:Rel K F1 H₀ I (cc e1 lock) σ H1
 ff:FF F1 (cc e1 lock) σ=FF F0 e1 σ
 ia:∀ b,IA (cc e1 lock) σ b->IA e1 σ b/\∀ i,lock=some i->mu e1 i->σ[i]?≠some (some (.ref b))
 un:∀ env' σ' H',Rel K F1 H1 (IA (cc e1 lock) σ) env' σ' H'->KpS (cc e1 lock) σ env' σ'->Rel K F0 H₀ I (aK e1 lock env') σ' H'/\KpS e1 σ (aK e1 lock env') σ'/\FF F0 (aK e1 lock env') σ'=FF F1 env' σ'
theorem Lk.tO (R:Rel K F0 H₀ I e1 σ H1) {lock:Option Nat} (h1:cc e1 lock=e1) (h2:∀ env',aK e1 lock env'=env') (h3:∀ i,lock=some i->¬mu e1 i):Lk K F0 H₀ I e1 σ H1 lock F0 :=
 ⟨by rw [h1];exact R,by rw [h1],fun b hb=>by rw [h1] at hb;exact ⟨hb,fun i hi m=>absurd m (h3 i hi)⟩,fun env' σ' H' S k=>by rw [h1] at S k;rw [h2];exact ⟨R.bL S,k,rfl⟩⟩
theorem Lk.AR (R:Rel K F0 H₀ I e1 σ H1) {i:Nat} {d:PyData} {a:Addr} (e:e1[i]?=some (.own d)\/e1[i]?=some (.ino d)) (s:σ[i]?=some (some (.ref a))):Lk K F0 H₀ I e1 σ H1 (some i) (fun b=>F0 b\/b=a):=by
 have hi:i < e1.length:=by rcases e with e | e <;> exact (Ie.mp e).1
 have mi:mu e1 i:=⟨d,e⟩;have el:cc e1 (some i)=e1.set i (.ro d):=by simp only [cc];rcases e with e | e <;> rw [e]
 have hm:bp e1 i=some d:=by unfold bp;rcases e with e | e <;> rw [e]
 obtain ⟨_,a',s',fa,ta⟩:=R.dQ hm;rw [s] at s';cases s';have hu:(e1.set i .un)[i]?=some .un:=Ir hi;have mmu:∀ j,mu (e1.set i .un) j->mu e1 j/\i≠j:=fun j h=>by
  obtain ⟨c,e | e⟩:=h
  ·rcases get_set e with ⟨_,z⟩ | ⟨n,e⟩
   ·cases z
   ·exact ⟨⟨c,.inl e⟩,n⟩
  ·rcases get_set e with ⟨_,z⟩ | ⟨n,e⟩
   ·cases z
   ·exact ⟨⟨c,.inr e⟩,n⟩
 have nIA:¬IA (e1.set i .un) σ a:=fun ⟨j,m,q⟩=>(mmu j m).2 (R.sep i j a mi (mmu j m).1 s q);have eFu:FF (fun b=>F0 b\/b=a) (e1.set i .un) σ=FF F0 e1 σ:=by
  funext b;apply propext;constructor
  ·rintro ((h | h) | ⟨j,c,e',q⟩)
   ·exact .inl h
   ·exact h▸fa
   ·rcases get_set e' with ⟨_,z⟩ | ⟨n,e'⟩
    ·cases z
    ·exact .inr ⟨j,c,e',q⟩
  ·rintro (h | ⟨j,c,e',q⟩)
   ·exact .inl (.inl h)
   ·by_cases n:i=j
    ·subst n;rw [s] at q;cases q;exact .inl (.inr rfl)
    ·exact .inr ⟨j,c,by rw [Ih n];exact e',q⟩
 have Ru:Rel K (fun b=>F0 b\/b=a) H₀ I (e1.set i .un) σ H1:=by
  rcases e with e | e
  ·obtain ⟨a2,s2,r⟩:=R.take e;rw [s] at s2;cases s2;obtain ⟨a3,ea,R',_⟩:=r;cases ea;exact R'
  ·have:=R.forget i (some (.ref a));rw [set_same s] at this;obtain ⟨a2,s2,f2,_⟩:=R.ino i d e;rw [s] at s2;cases s2;exact this.eqF fun b=>⟨.inl,fun z=>z.elim id fun z=>z▸f2⟩
 have Rl:Rel K (fun b=>F0 b\/b=a) H₀ I (e1.set i (.ro d)) σ H1:=by
  have:=Ru.Eb (d:=d) hu s (by rw [eFu];exact ta.ro nIA)
  rwa [JH] at this
 have eFl:FF (fun b=>F0 b\/b=a) (e1.set i (.ro d)) σ=FF F0 e1 σ:=by
  rw [<- eFu];have:=ku (F0:=fun b=>F0 b\/b=a) (σ:=σ) (s:=.ro d) (x:=some (.ref a)) hu (fun _=>nofun)
  rwa [set_same s,JH] at this
 have eIl:IA (e1.set i (.ro d)) σ=IA (e1.set i .un) σ:=by
  have:=rm (σ:=σ) (s:=.ro d) (x:=some (.ref a)) hu (fun _=>⟨nofun,nofun⟩)
  rwa [set_same s,JH] at this
 have iaSub:∀ b,IA (e1.set i (.ro d)) σ b->IA e1 σ b:=fun b hb=>by rw [eIl] at hb;obtain ⟨j,m,q⟩:=hb;exact ⟨j,(mmu j m).1,q⟩
 refine ⟨by rw [el];exact Rl,by rw [el];exact eFl,fun b hb=>?_,fun env' σ' H' S k=>?_⟩
 ·rw [el,eIl] at hb;obtain ⟨j,m,q⟩:=hb;refine ⟨⟨j,(mmu j m).1,q⟩,fun i' hi' mi' si'=>?_⟩;cases hi';exact (mmu j m).2 (R.sep i j b mi (mmu j m).1 si' q)
 ·rw [el] at S k;have hro:(e1.set i (.ro d))[i]?=some (.ro d):=Ir hi;obtain ⟨si,he,hv,hs⟩:=k.2 i _ hro;have hv:si=.ro d:=hv;subst hv;have hs:=(hs trivial).trans s;have hi':i < env'.length:=(Ie.mp he).1;have na1:¬IA (e1.set i (.ro d)) σ a:=by rw [eIl];exact nIA
  have keepA:∀ o,H1 a=some o->H' a=some o:=fun o z=>S.dX a o z na1;have fSub:∀ b,FF (fun b=>F0 b\/b=a) env' σ' b->(FF F0 e1 σ b\/H1 b=none):=fun b z=>by
   rcases z with (z | z) | ⟨j,c,e',q⟩
   ·exact .inl (.inl z)
   ·exact .inl (z▸fa)
   ·obtain ⟨b',q',_,w,_⟩:=S.own j c e';rw [q] at q';cases q';rcases w with w | w
    ·exact .inr w
    ·exact .inl (R.ia (iaSub b w))
  have pF:Pr (fun b=>FF F0 e1 σ b\/H1 b=none) H1 H':=(R.pL fun b o z n=>S.dX b o z fun y=>n (iaSub b y)).GR fun b z=>.inl z;have tA:Top K (FF (fun b=>F0 b\/b=a) env' σ') H' d a:=ta.bE.pr pF fSub keepA;have iaEnd:∀ b,IA env' σ' b->(IA e1 σ b\/H1 b=none):=fun b z=>by
   rcases S.iaI z with w | w
   ·exact .inr w
   ·exact .inl (iaSub b w)
  have roOld:∀ (j:Nat) (c:PyData),env'[j]?=some (.ro c)->i≠j->∃ b,σ'[j]?=some (some (.ref b))/\fZ K (FF (fun b=>F0 b\/b=a) env' σ') (fun b=>IA env' σ' b\/b=a) H' c b:=fun j c e' n=>by
   have hj:j < e1.length:=by
    have:=(Ie.mp e').1;rw [k.1,IW] at this;exact this
   have e0:(e1.set i (.ro d))[j]?=some e1[j]:=by rw [Ih n];exact Ia hj
   obtain ⟨s',h',v',w'⟩:=k.2 j _ e0;rw [e'] at h';cases h';have es:e1[j]=.ro c:=by
    cases hh:e1[j] with
    | ino _=>rw [hh] at v';obtain ⟨_,z⟩:=v';cases z
    | ro c'=>rw [hh] at v';have:Sl.ro c=.ro c':=v';rw [this]
    | un=>rw [hh] at v';exact absurd rfl (v'.2 c)
    | dat _=>rw [hh] at v';exact absurd rfl (v'.2 c)
    | own _=>rw [hh] at v';exact absurd rfl (v'.2 c)
   have er:e1[j]?=some (.ro c):=by rw [Ia hj,es]
   obtain ⟨b,q,r⟩:=R.ro j c er;rw [es] at w';refine ⟨b,(w' trivial).trans q,r.bE.pr pF fSub (fun b z=>?_) fun b o z n=>S.dX b o z fun y=>n (.inl (iaSub b y))⟩;rcases z with z | z
   ·exact iaEnd b z
   ·exact .inl (z▸⟨i,mi,s⟩)
  have inoNe:∀ (j:Nat) (c:PyData),env'[j]?=some (.ino c)->σ'[j]?≠some (some (.ref a)):=fun j c e' q=>by
   have n:i≠j:=fun z=>by subst z;rw [he] at e';cases e'
   have hj:j < e1.length:=by
    have:=(Ie.mp e').1;rw [k.1,IW] at this;exact this
   have e0:(e1.set i (.ro d))[j]?=some e1[j]:=by rw [Ih n];exact Ia hj
   obtain ⟨s',h',v',w'⟩:=k.2 j _ e0;rw [e'] at h';cases h';have es:∃ c',e1[j]=.ino c':=by
    cases hh:e1[j] with
    | ino c'=>exact ⟨c',rfl⟩
    | ro c'=>rw [hh] at v';cases v'
    | un=>rw [hh] at v';exact absurd rfl (v'.1 c)
    | dat _=>rw [hh] at v';exact absurd rfl (v'.1 c)
    | own _=>rw [hh] at v';exact absurd rfl (v'.1 c)
   obtain ⟨c',es⟩:=es;have er:e1[j]?=some (.ino c'):=by rw [Ia hj,es]
   rw [es] at w';rw [w' trivial] at q;exact n (R.sep i j a mi ⟨c',.inr er⟩ s q)
  have Sf:Rel K (fun b=>F0 b\/b=a) H1 (IA e1 σ) (env'.set i .un) σ' H':=by
   have:=S.forget i (some (.ref a));rw [set_same hs] at this;exact this.DP iaSub
  have hu':(env'.set i .un)[i]?=some .un:=Ir hi';have eFe:FF (fun b=>F0 b\/b=a) (env'.set i .un) σ'=FF (fun b=>F0 b\/b=a) env' σ':=by
   funext b;apply propext;constructor
   ·rintro (h | ⟨j,c,e',q⟩)
    ·exact .inl h
    ·rcases get_set e' with ⟨_,z⟩ | ⟨n,e'⟩
     ·cases z
     ·exact .inr ⟨j,c,e',q⟩
   ·rintro (h | ⟨j,c,e',q⟩)
    ·exact .inl h
    ·have n:i≠j:=fun z=>by subst z;rw [he] at e';cases e'
     exact .inr ⟨j,c,by rw [Ih n];exact e',q⟩
  have iaE:∀ b,IA (env'.set i .un) σ' b->IA env' σ' b:=by
   rintro b ⟨j,⟨c,m⟩,q⟩;refine ⟨j,⟨c,?_⟩,q⟩;rcases m with m | m
   ·rcases get_set m with ⟨_,z⟩ | ⟨n,m⟩
    ·cases z
    ·exact .inl m
   ·rcases get_set m with ⟨_,z⟩ | ⟨n,m⟩
    ·cases z
    ·exact .inr m
  have kEnd:∀ t:Sl,Evs (e1[i]) t->KpS e1 σ (env'.set i t) σ':=fun t ht=>by
   refine ⟨by rw [IW,k.1,IW],fun j s0 e0=>?_⟩;by_cases z:i=j
   ·subst z;rw [Ia hi] at e0;cases e0;exact ⟨t,Ir hi',ht,fun _=>hs.trans s.symm⟩
   ·obtain ⟨s',h',v',w'⟩:=k.2 j s0 (by rw [Ih z];exact e0);exact ⟨s',by rw [Ih z];exact h',v',w'⟩
  rcases e with e | e
  ·have eu:aK e1 (some i) env'=env'.set i (.own d):=by simp only [aK];rw [e,he]
   obtain ⟨a2,s2,nF,_⟩:=R.own i d e;rw [s] at s2;cases s2;have nFF:¬FF F0 (env'.set i .un) σ' a:=by
    rintro (h | ⟨j,c,e',q⟩)
    ·exact nF h
    ·obtain ⟨b',q',n',_⟩:=Sf.own j c e';rw [q] at q';cases q';exact n' (.inr rfl)
   have rv:fj K F0 H1 (IA e1 σ) (env'.set i .un) σ' H' (.frs d) (.ref a):=by
    refine ⟨a,rfl,Sf,?_,.inr ⟨i,mi,s⟩,nFF,fun j c e' q=>?_,fun j c e'=>?_⟩
    ·rw [<- gh,eFe];exact tA
    ·rcases get_set e' with ⟨_,z⟩ | ⟨n,e'⟩
     ·cases z
     ·exact inoNe j c e' q
    ·rcases get_set e' with ⟨_,z⟩ | ⟨n,e'⟩
     ·cases z
     ·obtain ⟨b,q,r⟩:=roOld j c e' n;refine ⟨b,q,?_⟩;rw [<- gh,eFe];exact r.pr Pr.refl (fun _ z=>z) (fun b z=>z.imp (iaE b) id) fun _ _ z _=>z
   have Rn:=Rel.Gx hu' rv;rw [JH,set_same hs] at Rn;rw [eu];refine ⟨R.bL Rn,kEnd _ ?_,?_⟩
   ·have:e1[i]=.own d:=by have:=Ia hi;rw [e] at this;exact (Jk this).symm
    rw [this];exact ⟨fun _=>nofun,fun _=>nofun⟩
   ·rw [<- eFe,gh];funext b;apply propext;constructor
    ·rintro (h | ⟨j,c,e',q⟩)
     ·exact .inl (.inl h)
     ·rcases get_set e' with ⟨z,_⟩ | ⟨n,e'⟩
      ·subst z;rw [hs] at q;cases q;exact .inr rfl
      ·exact .inl (.inr ⟨j,c,by rw [Ih n];exact e',q⟩)
    ·rintro ((h | ⟨j,c,e',q⟩) | rfl)
     ·exact .inl h
     ·rcases get_set e' with ⟨_,z⟩ | ⟨n,e'⟩
      ·cases z
      ·exact .inr ⟨j,c,by rw [Ih n];exact e',q⟩
     ·exact .inr ⟨i,d,Ir hi',hs⟩
  ·have eu:aK e1 (some i) env'=env'.set i (.ino d):=by simp only [aK];rw [e,he]
   obtain ⟨a2,s2,f2,i2,_⟩:=R.ino i d e;rw [s] at s2;cases s2;have Sf2:Rel K F0 H1 (IA e1 σ) (env'.set i .un) σ' H':=Sf.eqF fun b=>⟨fun z=>z.elim id fun z=>z▸f2,.inl⟩;have eF0:FF F0 (env'.set i .un) σ'=FF (fun b=>F0 b\/b=a) env' σ':=by
    rw [<- eFe];have:(fun b=>F0 b\/b=a)=F0:=funext fun b=>propext ⟨fun z=>z.elim id fun z=>z▸f2,.inl⟩;rw [this]
   have Rn:=Sf2.HS (d:=d) hu' hs (by rw [eF0];exact tA) f2 ⟨i,mi,s⟩ (fun j m q=>?_) (fun j c e'=>?_)
   ·rw [JH] at Rn;rw [eu];refine ⟨R.bL Rn,kEnd _ ?_,?_⟩
    ·have:e1[i]=.ino d:=by have:=Ia hi;rw [e] at this;exact (Jk this).symm
     rw [this];exact ⟨d,rfl⟩
    ·rw [<- eF0];have:=ku (F0:=F0) (σ:=σ') (s:=.ino d) (x:=some (.ref a)) hu' (fun _=>nofun)
     rwa [set_same hs,JH] at this
   ·obtain ⟨c,m | m⟩:=m
    ·obtain ⟨b',q',n',_⟩:=Sf.own j c m;rw [q] at q';cases q';exact n' (.inr rfl)
    ·rcases get_set m with ⟨_,z⟩ | ⟨n,m⟩
     ·cases z
     ·exact inoNe j c m q
   ·rcases get_set e' with ⟨_,z⟩ | ⟨n,e'⟩
    ·cases z
    ·obtain ⟨b,q,r⟩:=roOld j c e' n;refine ⟨b,q,?_⟩;rw [eF0];exact r.pr Pr.refl (fun _ z=>z) (fun b z=>z.imp (iaE b) id) fun _ _ z _=>z
theorem Lk.of (R:Rel K F0 H₀ I e1 σ H1) (lock:Option Nat):∃ F1,Lk K F0 H₀ I e1 σ H1 lock F1/\(lkd e1 lock=false->F1=F0/\cc e1 lock=e1/\∀ env',aK e1 lock env'=env'):=by
 cases lock with
 | none=>exact ⟨F0,Lk.tO R rfl (fun _=>rfl) (fun i z=>by cases z),fun _=>⟨rfl,rfl,fun _=>rfl⟩⟩
 | some i =>
  cases e:e1[i]? with
  | none =>
   have h1:cc e1 (some i)=e1:=by simp only [cc];rw [e]
   have h2:∀ env',aK e1 (some i) env'=env':=fun env'=>by simp only [aK];rw [e]
   exact ⟨F0,Lk.tO R h1 h2 (fun j z m=>by cases z;obtain ⟨d,m | m⟩:=m <;> (rw [e] at m;cases m)),fun _=>⟨rfl,h1,h2⟩⟩
  | some s =>
   cases s with
   | own d =>
    obtain ⟨a,q,_⟩:=R.own i d e;exact ⟨_,Lk.AR R (.inl e) q,fun z=>by simp only [lkd] at z;rw [e] at z;cases z⟩
   | ino d =>
    obtain ⟨a,q,_⟩:=R.ino i d e;exact ⟨_,Lk.AR R (.inr e) q,fun z=>by simp only [lkd] at z;rw [e] at z;cases z⟩
   | un =>
    have h1:cc e1 (some i)=e1:=by simp only [cc];rw [e]
    have h2:∀ env',aK e1 (some i) env'=env':=fun env'=>by simp only [aK];rw [e]
    exact ⟨F0,Lk.tO R h1 h2 (fun j z m=>by cases z;obtain ⟨d,m | m⟩:=m <;> (rw [e] at m;cases m)),fun _=>⟨rfl,h1,h2⟩⟩
   | dat d =>
    have h1:cc e1 (some i)=e1:=by simp only [cc];rw [e]
    have h2:∀ env',aK e1 (some i) env'=env':=fun env'=>by simp only [aK];rw [e]
    exact ⟨F0,Lk.tO R h1 h2 (fun j z m=>by cases z;obtain ⟨d,m | m⟩:=m <;> (rw [e] at m;cases m)),fun _=>⟨rfl,h1,h2⟩⟩
   | ro d =>
    have h1:cc e1 (some i)=e1:=by simp only [cc];rw [e]
    have h2:∀ env',aK e1 (some i) env'=env':=fun env'=>by simp only [aK];rw [e]
    exact ⟨F0,Lk.tO R h1 h2 (fun j z m=>by cases z;obtain ⟨d,m | m⟩:=m <;> (rw [e] at m;cases m)),fun _=>⟨rfl,h1,h2⟩⟩
theorem qX {b:PyData->En->Option Out} {ds:List PyData} {out:Out} {J:It} {F1 I1:Addr->Prop} {el:En} {g:TG} {tb:TS} {D:Ends} (R:Rel K F1 H1 I1 el σ H1) (hI:I1=IA el σ) (hit:wd K (FF F1 el σ) I1 H1 J ds) (h:forL b ds el=some out)
  (turn:∀ d o env' σ' H' x,b d env'=some o->Rel K F1 H1 I1 env' σ' H'->KpS el σ env' σ'->Dm K (FF F1 env' σ') H' d x->∀ D':Ends,mC K F1 H1 I1 env' σ' D' o->g x σ' H' fun σ2 H2=>tb D' σ2 H2)
  (q:mC K F1 H1 I1 el σ D out) :
  ∃ W:Nat->Nat->St->Hp->Prop,(∃ m,W 0 m σ H1)/\∀ i m σ H,W i m σ H ->
   (J.stop i H/\D.nx σ H)\/(J.go i H/\∃ N:St->Hp->Prop,(∀ σ' H',N σ' H'->∃ m',m' < m/\W (i+1) m' σ' H')/\∀ x H',J.yld i H x H'->g x σ H' fun σ2 H2=>tb { D with nx:=N,ct:=N,bk:=D.nx } σ2 H2):=by
 subst hI;obtain ⟨hvl,hturn⟩:=hit;refine ⟨fun i m σ' H'=>m=ds.length - i/\i<=ds.length/\∃ env',forL b (ds.drop i) env'=some out/\Rel K F1 H1 (IA el σ) env' σ' H'/\KpS el σ env' σ',⟨ds.length,rfl,Jw _,el,h,R,KpS.refl _ _⟩,?_⟩;rintro i m σ' H' ⟨rfl,hi,env',hf,R',k'⟩;have hkept:∀ b o,H1 b=some o->¬IA el σ b->H' b=some o:=R'.dX;by_cases hlt:i < ds.length
 ·right;obtain ⟨go,yld⟩:=(hturn H' hkept i).1 (by omega);refine ⟨go,fun σ3 H3=>(ds.length - (i+1))=ds.length - (i+1)/\i+1<=ds.length/\∃ env',forL b (ds.drop (i+1)) env'=some out/\Rel K F1 H1 (IA el σ) env' σ3 H3/\KpS el σ env' σ3,fun σ3 H3 z=>⟨ds.length - (i+1),by omega,z⟩,fun x H'' hx=>?_⟩;obtain ⟨d,hd,hy9⟩:=yld x H'' hx;have fSub:∀ b,FF F1 env' σ' b->(FF F1 el σ b\/H1 b=none):=fun b z=>by
   rcases z with z | ⟨j,c,e',s'⟩
   ·exact .inl (.inl z)
   ·obtain ⟨b',q',_,w,_⟩:=R'.own j c e';rw [s'] at q';cases q';exact w.elim .inr fun w=>.inl (R.ia w)
  obtain ⟨sm,hdx'⟩:=hy9.dm (F2:=FF F1 env' σ') fun d v h=>h.bE.pr ((R.pL hkept).GR fun b z=>.inl z) fSub;have R':=R'.same sm;have ed:ds.drop i=d :: ds.drop (i+1):=by
   rw [Jz hlt];obtain ⟨_,z⟩:=Ie.mp hd;rw [z]
  rw [ed] at hf;unfold forL at hf;split at hf
  ·rename_i e hb;exact turn d _ env' σ' H'' x hb R' k' hdx' _ fun σ3 H3 R3 k3=>⟨rfl,by omega,e,hf,R3,k'.trans k3⟩
  ·rename_i e hb;exact turn d _ env' σ' H'' x hb R' k' hdx' _ fun σ3 H3 R3 k3=>⟨rfl,by omega,e,hf,R3,k'.trans k3⟩
  ·rename_i e hb;cases hf;exact turn d _ env' σ' H'' x hb R' k' hdx' _ fun σ3 H3 R3 k3=>q σ3 H3 R3 (k'.trans k3)
  ·rename_i r e hb;cases hf;exact turn d _ env' σ' H'' x hb R' k' hdx' _ fun v σ3 H3 R3 k3 r3=>q v σ3 H3 R3 (k'.trans k3) r3
  ·cases hf
 ·left;have e:i=ds.length:=by omega
  subst e;rw [List.drop_length] at hf;unfold forL at hf;cases hf;exact ⟨(hturn H' hkept _).2 (by omega),q σ' H' R' k'⟩
theorem fj.unl {rv:RV} {v:V} {F1:Addr->Prop} {e2:En} (h:fj K F1 H₀ I env σ H rv v) (hn:∀ d,rv≠.frs d) (eF:FF F0 e2 σ=FF F1 env σ) {H₁:Hp} {I₁:Addr->Prop}:fj K F0 H₁ I₁ e2 σ H rv v:=by
 cases rv with
 | dat d=>show Dm K _ H d v;rw [eF];exact h
 | bor i=>exact h
 | frs d=>exact absurd rfl (hn d)
theorem fj.Fm {rv:RV} {v:V} (h:fj K F0 H₀ I env σ H rv v):fj K F0 H₀ I env σ H (rv.soft true) v:=by
 cases rv with
 | dat d=>exact h
 | bor i=>exact h
 | frs d=>exact h.av
theorem fj.bL {rv:RV} {v:V} (R:Rel K F0 H₀ I env σ H) (h:fj K F0 H (IA env σ) env' σ' H' rv v):fj K F0 H₀ I env' σ' H' rv v:=by
 cases rv with
 | dat d=>exact h
 | bor i=>exact h
 | frs d =>
  obtain ⟨a,ea,S,t,w,nF,hi,hr⟩:=h;have S0:=R.bL (S.less hi);refine ⟨a,ea,⟨S.len,S.dat,fun i c e=>?_,fun i c e=>?_,S.ro,S.sep,S.dom,S0.dX⟩,t,R.oi w,nF,hi,hr⟩
  ·obtain ⟨b,s,n,w',t'⟩:=S.own i c e;exact ⟨b,s,n,R.oi w',t'⟩
  ·obtain ⟨b,s,n,w',t'⟩:=S.ino i c e;obtain ⟨b2,s2,_,i2,_⟩:=S0.ino i c e;rw [s] at s2;cases s2;exact ⟨b,s,n,i2,t'⟩
theorem Lk.out {lock:Option Nat} {F1:Addr->Prop} {D:Ends} {out:Out} (R1:Rel K F0 H₀ I e1 σ H1) (L:Lk K F0 H₀ I e1 σ H1 lock F1) (hno:lkd e1 lock=false->F1=F0/\cc e1 lock=e1/\∀ env',aK e1 lock env'=env')
  (q:mC K F0 H₀ I e1 σ D (out.map (lkd e1 lock) (aK e1 lock))):mC K F1 H1 (IA (cc e1 lock) σ) (cc e1 lock) σ D out:=by
 cases out with
 | nx e=>exact fun σ' H' R' k'=>let ⟨A,B,_⟩:=L.un e σ' H' R' k';q σ' H' A B
 | bk e=>exact fun σ' H' R' k'=>let ⟨A,B,_⟩:=L.un e σ' H' R' k';q σ' H' A B
 | ct e=>exact fun σ' H' R' k'=>let ⟨A,B,_⟩:=L.un e σ' H' R' k';q σ' H' A B
 | rt rv e =>
  intro v σ' H' R' k' r;obtain ⟨A,B,C⟩:=L.un e σ' H' R' k';refine q v σ' H' A B ?_;cases hl:lkd e1 lock with
  | true=>exact r.Fm.unl (fun d z=>by cases rv <;> cases z) C
  | false =>
   obtain ⟨rfl,h1,h2⟩:=hno hl;rw [h1] at r;rw [h2];have:rv.soft false=rv:=by cases rv <;> rfl
   rw [this];exact r.bL R1
theorem F5 {i:Nat} {it:XI} {b:XS} (ii:SI K ga gd it) (ib:SS K ga gd b):SS K ga gd (.fr i it b):=by
 intro env out h F0 H₀ I σ H D R q;simp only [dS] at h;split at h
 ·rename_i ds lock e1 h1;cases ho:forL (j8 i (dS gd b)) ds (cc e1 lock) with
  | none=>rw [ho] at h;cases h
  | some o =>
   rw [ho] at h;cases h;refine ii _ _ _ _ h1 F0 H₀ I σ H _ R fun J H1 R1 k1 _ hit=>?_;obtain ⟨F1,L,hno⟩:=Lk.of R1 lock;have Rb:=L.rel.rebase;refine qX Rb rfl ?_ ho ?_ (L.out R1 hno (q.from k1.s))
   ·rw [L.ff];obtain ⟨a2,a3⟩:=hit;exact ⟨a2,fun H' hk=>a3 H' fun b o e n=>hk b o e fun z=>n (L.ia b z)⟩
   ·intro d o env' σ' H' x hb R' k' hd D' hD;unfold j8 at hb;split at hb
    ·rename_i hf;obtain ⟨R2,k2⟩:=R'.Fs hf hd;exact ib _ _ hb _ _ _ _ H' D' R2 (hD.from k2)
    ·cases hb
 ·cases h
theorem CV {is:List Nat} {it:XI} {b:XS} (ii:SI K ga gd it) (ib:SS K ga gd b):SS K ga gd (.frT is it b):=by
 intro env out h F0 H₀ I σ H D R q;simp only [dS] at h;split at h
 ·rename_i ds lock e1 h1
  ·obtain ⟨o,ho,e0⟩:=Je.mp h;subst e0;refine ii _ _ _ _ h1 F0 H₀ I σ H _ R fun J H1 R1 k1 _ hit=>?_;obtain ⟨F1,L,hno⟩:=Lk.of R1 lock;have Rb:=L.rel.rebase;refine qX Rb rfl ?_ ho ?_ (L.out R1 hno (q.from k1.s))
   ·rw [L.ff];obtain ⟨a2,a3⟩:=hit;exact ⟨a2,fun H' hk=>a3 H' fun b o e n=>hk b o e fun z=>n (L.ia b z)⟩
   ·intro d o env' σ' H' x hb R' k' hd D' hD;unfold jr at hb;split at hb
    ·rename_i xs;split at hb
     ·rename_i e2 hset;obtain ⟨a,vs,rfl,l,z,r⟩:=hd;have hlen:∀ {is:List Nat} {ds:List PyData} {e e':En},gu e is ds=some e'->is.length=ds.length:=by
       intro is;induction is with
       | nil=>intro ds e e' h;cases ds with
        | nil=>rfl
        | cons _ _=>cases h
       | cons i is ih=>intro ds e e' h;cases ds with
        | nil=>cases h
        | cons d ds =>
         unfold gu at h;split at h
         ·rw [IH,IH,ih h]
         ·cases h
      exact ⟨a,vs,rfl,l,by rw [r.len,hlen hset],nX hset R' r fun σ2 R2 k2=>ib _ _ hb _ _ _ _ H' D' R2 (hD.from k2)⟩
     ·cases hb
    ·cases hb
 ·cases h
theorem sS (hg:∀ g d,gd[g]?=some d->∀ F H,Dm K F H d (ga g)):∀ s:XS,SS K ga gd s
 | .skip=>fun env out h F0 H₀ I σ H D R q=>by cases h;exact q σ H R (KpS.refl _ _)
 | .seq a b=>Ca (sS hg a) (sS hg b)
 | .fq i e=>yk (sE hg e) | .x8 i e=>zt (sE hg e) | .Df is e=>zA (sE hg e) | .drop e=>zi (sE hg e) | .ret e=>Aq (sE hg e)
 | .Dx=>fun env out h F0 H₀ I σ H D R q=>by cases h;exact q .non σ H R (KpS.refl _ _) rfl
 | .ifs c a b=>B7 (sT hg c) (sS hg a) (sS hg b)
 | .fr i it b=>F5 (sI hg it) (sS hg b) | .frT is it b=>CV (sI hg it) (sS hg b) | .wh n c b=>F8 (sT hg c) (sS hg b)
 | .brk=>fun env out h F0 H₀ I σ H D R q=>by cases h;exact q σ H R (KpS.refl _ _)
 | .cnt=>fun env out h F0 H₀ I σ H D R q=>by cases h;exact q σ H R (KpS.refl _ _)
 | .nev=>fun env out h F0 H₀ I σ H D R q=>by cases h
 | .sto m i k e=>CO (sE hg k) (sE hg e)
end
end L2
end
section
namespace L2
open PySem
section
variable {K:Fg} {F F' G I I' F0:Addr->Prop} {H H' H₀ H1:Hp} {env env' e1:En} {σ σ':St} {ga:Nat->V} {gd:List PyData}
theorem cV:∀ {ms:List PM} {ds:List PyData} {n:Nat},ds.length=ms.length->ms.length<=n->(ax ms ds n).length=n
 | [],[],n,_,_=>by simp [ax]
 | [],_ :: _,n,h,_=>by cases h
 | _ :: _,[],n,h,_=>by cases h
 | m :: ms,d :: ds,n,h,hn=>by
  have ih:=cV (ms:=ms) (ds:=ds) (n:=n - 1) (by simpa using h) (by simp at hn;omega);simp at hn;cases m <;> (simp only [ax,IH,ih];omega)
theorem cq.len:∀ {ms:List PM} {ds:List PyData} {vs:List V} {is:List Addr},cq K G I H ms ds vs is->ds.length=ms.length/\vs.length=ms.length
 | [],[],[],_,_=>⟨rfl,rfl⟩
 | [],[],_ :: _,_,h=>by exact absurd h id
 | [],_ :: _,_,_,h=>by exact absurd h id
 | m :: ms,[],_,_,h=>by cases m <;> exact absurd h id
 | m :: ms,d :: ds,[],_,h=>by cases m <;> exact absurd h id
 | .dat :: ms,d :: ds,v :: vs,is,h=>by obtain ⟨a,b⟩:=cq.len h.2;exact ⟨by simp [a],by simp [b]⟩
 | .bor :: ms,d :: ds,v :: vs,is,h=>by obtain ⟨a,b⟩:=cq.len h.2;exact ⟨by simp [a],by simp [b]⟩
 | .ino :: ms,d :: ds,v :: vs,is,h=>by obtain ⟨_,_,_,_,_,_,_,h⟩:=h;obtain ⟨a,b⟩:=cq.len h;exact ⟨by simp [a],by simp [b]⟩
def At (K:Fg) (G I:Addr->Prop) (H:Hp) (is:List Addr) (s:Sl) (x:Option V):Prop:=match s with
 | .un=>True
 | .dat d=>∃ v,x=some v/\Dm K G H d v
 | .ino d=>∃ a,x=some (.ref a)/\a∈is/\G a/\Top K G H d a
 | .ro d=>∃ a,x=some (.ref a)/\fZ K G I H d a
 | .own _=>False
theorem At.more {is is':List Addr} {s:Sl} {x:Option V} (h:At K G I H is s x) (q:∀ a∈is,a∈is'):At K G I H is' s x:=by
 cases s with
 | ino d=>obtain ⟨a,e,m,r⟩:=h;exact ⟨a,e,q a m,r⟩
 | _=>exact h
theorem cB:∀ {ms:List PM} {ds:List PyData} {vs:List V} {is:List Addr} {n:Nat} {tl:St},cq K G I H ms ds vs is->∀ {i:Nat} {s:Sl},(ax ms ds n)[i]?=some s->∀ {x:Option V},(vs.map some++tl)[i]?=some x->At K G I H is s x
 | [],[],[],is,n,tl,h,i,s,e,x,_=>by
  simp only [ax,List.getElem?_replicate] at e;split at e
  ·cases e;trivial
  ·cases e
 | [],[],_ :: _,_,_,_,h,_,_,_,_,_=>by exact absurd h id
 | [],_ :: _,_,_,_,_,h,_,_,_,_,_=>by exact absurd h id
 | m :: ms,[],_,_,_,_,h,_,_,_,_,_=>by cases m <;> exact absurd h id
 | m :: ms,d :: ds,[],_,_,_,h,_,_,_,_,_=>by cases m <;> exact absurd h id
 | .dat :: ms,d :: ds,v :: vs,is,n,tl,h,0,s,e,x,ex=>by
  simp [ax] at e ex;subst e ex;exact ⟨v,rfl,h.1⟩
 | .dat :: ms,d :: ds,v :: vs,is,n,tl,h,i+1,s,e,x,ex=>by
  simp [ax] at e;exact cB h.2 e (by simpa using ex)
 | .bor :: ms,d :: ds,v :: vs,is,n,tl,h,0,s,e,x,ex=>by
  simp [ax] at e ex;subst e ex;have h1:ze K G I H d v:=h.1;cases d <;> first | exact h1 | exact ⟨v,rfl,h1⟩ | (obtain ⟨a,rfl,r⟩:=h1;exact ⟨a,rfl,r⟩)
 | .bor :: ms,d :: ds,v :: vs,is,n,tl,h,i+1,s,e,x,ex=>by
  simp [ax] at e;exact cB h.2 e (by simpa using ex)
 | .ino :: ms,d :: ds,v :: vs,is,n,tl,h,0,s,e,x,ex=>by
  simp [ax] at e ex;subst e ex;obtain ⟨a,r,rfl,rfl,g,t,_,_⟩:=h;exact ⟨a,rfl,Ik,g,t⟩
 | .ino :: ms,d :: ds,v :: vs,is,n,tl,h,i+1,s,e,x,ex=>by
  simp [ax] at e;obtain ⟨a,r,rfl,rfl,g,t,_,h⟩:=h;exact (cB h e (by simpa using ex)).more fun b hb=>Io _ hb
theorem kg:∀ {ms:List PM} {ds:List PyData} {vs:List V} {is:List Addr} {n:Nat} {tl:St},cq K G I H ms ds vs is->∀ {i j:Nat} {c c':PyData} {a:Addr},(ax ms ds n)[i]?=some (.ino c)->(ax ms ds n)[j]?=some (.ino c') ->
  (vs.map some++tl)[i]?=some (some (.ref a))->(vs.map some++tl)[j]?=some (some (.ref a))->i=j
 | [],[],[],is,n,tl,h,i,j,c,c',a,e,_,_,_=>by
  simp only [ax,List.getElem?_replicate] at e;split at e <;> cases e
 | [],[],_ :: _,_,_,_,h,_,_,_,_,_,_,_,_,_=>by exact absurd h id
 | [],_ :: _,_,_,_,_,h,_,_,_,_,_,_,_,_,_=>by exact absurd h id
 | m :: ms,[],_,_,_,_,h,_,_,_,_,_,_,_,_,_=>by cases m <;> exact absurd h id
 | m :: ms,d :: ds,[],_,_,_,h,_,_,_,_,_,_,_,_,_=>by cases m <;> exact absurd h id
 | m :: ms,d :: ds,v :: vs,is,n,tl,h,0,0,c,c',a,e,e',s,s'=>rfl
 | m :: ms,d :: ds,v :: vs,is,n,tl,h,i+1,j+1,c,c',a,e,e',s,s'=>by
  have hr:∃ r,cq K G I H ms ds vs r:=by
   cases m with
   | dat=>exact ⟨is,h.2⟩
   | bor=>exact ⟨is,h.2⟩
   | ino=>obtain ⟨_,r,_,_,_,_,_,h⟩:=h;exact ⟨r,h⟩
  obtain ⟨r,hr⟩:=hr;have:i=j:=kg (n:=n - 1) (tl:=tl) hr (by cases m <;> simpa [ax] using e) (by cases m <;> simpa [ax] using e') (by simpa using s) (by simpa using s');rw [this]
 | m :: ms,d :: ds,v :: vs,is,n,tl,h,0,j+1,c,c',a,e,e',s,s'=>by
  cases m with
  | dat=>simp [ax] at e
  | bor=>cases d <;> simp [ax,xZ] at e
  | ino =>
   obtain ⟨b,r,rfl,rfl,g,t,nr,h⟩:=h;simp [ax] at e' s;subst s;obtain ⟨a',ea,m',_⟩:=cB (tl:=tl) h e' (by simpa using s');cases ea;exact absurd m' nr
 | m :: ms,d :: ds,v :: vs,is,n,tl,h,i+1,0,c,c',a,e,e',s,s'=>by
  cases m with
  | dat=>simp [ax] at e'
  | bor=>cases d <;> simp [ax,xZ] at e'
  | ino =>
   obtain ⟨b,r,rfl,rfl,g,t,nr,h⟩:=h;simp [ax] at e s';subst s';obtain ⟨a',ea,m',_⟩:=cB (tl:=tl) h e (by simpa using s);cases ea;exact absurd m' nr
theorem gG {G':Addr->Prop}:∀ {ms:List PM} {ds:List PyData} {vs:List V} {is:List Addr} {n:Nat} {tl:St} {env':En} {σ':St} {outs:List PyData},cq K G I H ms ds vs is->ms.length<=env'.length ->
  (∀ (i:Nat) (c:PyData),(ax ms ds n)[i]?=some (.ino c)->∃ c',env'[i]?=some (.ino c')/\σ'[i]?=(vs.map some++tl)[i]?)->(∀ (i:Nat) (c:PyData) (a:Addr),env'[i]?=some (.ino c)->σ'[i]?=some (some (.ref a))->Top K G' H' c a) ->
  jw ms env'=some outs->i9 K G' H' outs is
 | [],[],[],is,n,tl,env',σ',outs,h,_,_,_,e=>by
  rw [show is=[] from h];cases env' <;> (simp only [jw] at e;cases e;trivial)
 | [],[],_ :: _,_,_,_,_,_,_,h,_,_,_,_=>by exact absurd h id
 | [],_ :: _,_,_,_,_,_,_,_,h,_,_,_,_=>by exact absurd h id
 | m :: ms,[],_,_,_,_,_,_,_,h,_,_,_,_=>by cases m <;> exact absurd h id
 | m :: ms,d :: ds,[],_,_,_,_,_,_,h,_,_,_,_=>by cases m <;> exact absurd h id
 | m :: ms,d :: ds,v :: vs,is,n,tl,[],σ',outs,h,hl,h1,h2,e=>by simp at hl
 | m :: ms,d :: ds,v :: vs,is,n,tl,s :: es,σ',outs,h,hl,h1,h2,e=>by
  have hl':ms.length<=es.length:=by simpa using hl
  have t1:∀ (i:Nat) (c:PyData),(ax ms ds (n - 1))[i]?=some (.ino c)->∃ c',es[i]?=some (.ino c')/\σ'.tail[i]?=(vs.map some++tl)[i]?:=fun i c z=>by
   obtain ⟨c',e',q⟩:=h1 (i+1) c (by cases m <;> simpa [ax] using z);exact ⟨c',by simpa using e',by simpa using q⟩
  have t2:∀ (i:Nat) (c:PyData) (a:Addr),es[i]?=some (.ino c)->σ'.tail[i]?=some (some (.ref a))->Top K G' H' c a:=fun i c a z q=>h2 (i+1) c a (by simpa using z) (by simpa using q);cases m with
  | dat=>exact gG h.2 hl' t1 t2 (by simpa [jw] using e)
  | bor=>exact gG h.2 hl' t1 t2 (by simpa [jw] using e)
  | ino =>
   obtain ⟨b,r,rfl,rfl,g,t,nr,h⟩:=h;obtain ⟨c',e',q⟩:=h1 0 d (by simp [ax]);simp at e' q;subst e';simp only [jw] at e;split at e
   ·rename_i os ho;cases e;exact ⟨h2 0 c' b (by simp) (by simpa using q),gG h hl' t1 t2 ho⟩
   ·cases e
theorem aX (hg:∀ g d,gd[g]?=some d->∀ F H,Dm K F H d (ga g)) {ms:List PM} {N:List Str} {b:XS} {vs:List V} {H:Hp} {Q:VK} {E:XK} (h:fi (ix gd ms N.length b) K vs H Q E) (hn:ms.length<=N.length) :
  rS K ga b { nx:=fun _ H'=>Q .non H',rt:=Q } (start N vs) H:=by
 obtain ⟨G,ds,is,pr,outs,hF,ha,hd,post⟩:=h;have ha:cq K G (·∈is) H ms ds vs is:=ha;obtain ⟨hl1,hl2⟩:=ha.len;have hstart:start N vs=vs.map some++List.replicate (N.length - vs.length) none:=rfl;have no:noOwn (ax ms ds N.length):=fun i d e=>by
  have hi:i < (ax ms ds N.length).length:=(Ie.mp e).1;rw [cV hl1 hn] at hi;have hx:(vs.map some++List.replicate (N.length - vs.length) none)[i]?=some ((vs.map some++List.replicate (N.length - vs.length) none)[i]'(by rw [Ic,Ig,K4];omega)):=Ia _;exact (cB ha e hx:False)
 have at':∀ {i:Nat} {s:Sl},(ax ms ds N.length)[i]?=some s->∃ x,(start N vs)[i]?=some x/\At K G (·∈is) H is s x:=fun {i s} e=>by
  have hi:i < (ax ms ds N.length).length:=(Ie.mp e).1;rw [cV hl1 hn] at hi;have hx:(start N vs)[i]?=some ((start N vs)[i]'(by rw [hstart,Ic,Ig,K4];omega)):=Ia _;exact ⟨_,hx,cB ha e hx⟩
 have eF:FF G (ax ms ds N.length) (start N vs)=G:=dr no;have muI:∀ i,mu (ax ms ds N.length) i->∃ c,(ax ms ds N.length)[i]?=some (.ino c):=fun i ⟨c,m⟩=>m.elim (fun z=>absurd z (no i c)) fun z=>⟨c,z⟩;have R:Rel K G H (·∈is) (ax ms ds N.length) (start N vs) H:=by
  refine ⟨by rw [cV hl1 hn,hstart,Ic,Ig,K4];omega,fun i d e=>?_,fun i d e=>absurd e (no i d),fun i d e=>?_,fun i d e=>?_,fun i j a h1 h2 h3 h4=>?_,hd,fun _ _ h _=>h⟩
  ·rw [eF];obtain ⟨x,hx,v,rfl,r⟩:=at' e;exact ⟨v,hx,r⟩
  ·rw [eF];obtain ⟨x,hx,a,rfl,m,g,t⟩:=at' e;exact ⟨a,hx,g,m,t⟩
  ·rw [eF];obtain ⟨x,hx,a,rfl,r⟩:=at' e;refine ⟨a,hx,r.pr Pr.refl (fun _ z=>z) (fun b hb=>?_) fun _ _ z _=>z⟩;obtain ⟨j,m,s⟩:=hb;obtain ⟨c,m⟩:=muI j m;obtain ⟨x,hx,a,rfl,m,g,t⟩:=at' m;rw [s] at hx;cases hx;exact m
  ·obtain ⟨c,m1⟩:=muI i h1;obtain ⟨c',m2⟩:=muI j h2;exact kg ha m1 m2 h3 h4
 simp only [ix] at hF;rw [Ip hl1] at hF
 ·have inoK:∀ {env':En} {σ':St},KpS (ax ms ds N.length) (start N vs) env' σ'->∀ (i:Nat) (c:PyData),(ax ms ds N.length)[i]?=some (.ino c)->∃ c',env'[i]?=some (.ino c')/\σ'[i]?=(vs.map some++List.replicate (N.length - vs.length) none)[i]?:=fun {env' σ'} k i c e=>by
   obtain ⟨s',e',v,w⟩:=k.2 i _ e;obtain ⟨c',rfl⟩:=v;exact ⟨c',e',w trivial⟩
  have hlE:∀ {env':En} {σ':St},KpS (ax ms ds N.length) (start N vs) env' σ'->ms.length<=env'.length:=fun {env' σ'} k=>by rw [k.1,cV hl1 hn];exact hn
  split at hF
  ·rename_i rv env' hS;split at hF
   ·rename_i pr' outs' hpr houts;cases hF;refine sS hg b _ _ hS G H (·∈is) _ H _ R fun v σ' H' R' k' r'=>?_;have mono:∀ b,G b->FF G env' σ' b:=fun b z=>.inl z;cases rv with
    | bor i=>cases hpr
    | dat d =>
     cases hpr
     exact post v H' (fun b o e n=>R'.dX b o e n) ⟨Dm.mono mono r',gG ha (hlE k') (inoK k') (fun i c a e s=>by
      obtain ⟨a',s',_,_,t⟩:=R'.ino i c e;rw [s] at s';cases s'
      exact t.pr Pr.refl mono fun _ z=>z) houts⟩
    | frs d =>
     cases hpr;obtain ⟨a,rfl,Ra,t,w,nF,hino,_⟩:=r';have mono':∀ b,(G b\/b=a)->FF (fun b=>G b\/b=a) env' σ' b:=fun b z=>.inl z
     refine post _ H' (fun b o e n=>R'.dX b o e n) ⟨a,rfl,?_,t.pr Pr.refl (fun b z=>z.imp (mono b) id) (fun _ z=>z),gG ha (hlE k') (inoK k') (fun i c a' e s=>by
      obtain ⟨a2,s',_,_,t'⟩:=Ra.ino i c e;rw [s] at s';cases s'
      exact t'.pr Pr.refl mono' fun _ z=>z) houts⟩
     rcases w with w | w
     ·exact w
     ·-- it would be one that was handed in to be changed
      exfalso;have key:∀ {ms:List PM} {ds:List PyData} {vs:List V} {is:List Addr} {I:Addr->Prop} {n:Nat} {tl:St},cq K G I H ms ds vs is->a∈is->∃ (i:Nat) (c:PyData),(ax ms ds n)[i]?=some (.ino c)/\(vs.map some++tl)[i]?=some (some (.ref a)):=by
       intro ms;induction ms with
       | nil =>
        intro ds vs is I n tl h m;cases ds with
        | cons _ _=>exact absurd h id
        | nil=>cases vs with
         | cons _ _=>exact absurd h id
         | nil=>rw [show is=[] from h] at m;cases m
       | cons p ms ih =>
        intro ds vs is I n tl h m;cases ds with
        | nil=>cases p <;> exact absurd h id
        | cons d ds =>
         cases vs with
         | nil=>cases p <;> exact absurd h id
         | cons v vs =>
          cases p with
          | dat=>obtain ⟨i,c,e,s⟩:=ih (n:=n - 1) (tl:=tl) h.2 m;exact ⟨i+1,c,by simpa [ax] using e,by simpa using s⟩
          | bor=>obtain ⟨i,c,e,s⟩:=ih (n:=n - 1) (tl:=tl) h.2 m;exact ⟨i+1,c,by simpa [ax] using e,by simpa using s⟩
          | ino =>
           obtain ⟨b,r,rfl,rfl,g,t,nr,h⟩:=h;rcases Iz.mp m with rfl | m
           ·exact ⟨0,d,by simp [ax],by simp⟩
           ·obtain ⟨i,c,e,s⟩:=ih (n:=n - 1) (tl:=tl) h m;exact ⟨i+1,c,by simpa [ax] using e,by simpa using s⟩
      obtain ⟨i,c,e,s⟩:=key (n:=N.length) (tl:=List.replicate (N.length - vs.length) none) ha w;obtain ⟨c',e',s'⟩:=inoK k' i c e;exact hino i c' e' (s'.trans s)
   ·cases hF
  ·rename_i env' hS;split at hF
   ·rename_i outs' houts;cases hF;refine sS hg b _ _ hS G H (·∈is) _ H _ R fun σ' H' R' k'=>?_;have mono:∀ b,G b->FF G env' σ' b:=fun b z=>.inl z
    exact post .non H' (fun b o e n=>R'.dX b o e n) ⟨rfl,gG ha (hlE k') (inoK k') (fun i c a e s=>by
      obtain ⟨a',s',_,_,t⟩:=R'.ino i c e;rw [s] at s';cases s'
      exact t.pr Pr.refl mono fun _ z=>z) houts⟩
   ·cases hF
  ·cases hF
theorem aH {f:Fn} {vs:List V} {H:Hp} {Q:VK} {E:XK} (h:fi f K vs H Q E):vs.length=f.ms.length:=by
 obtain ⟨G,ds,is,pr,outs,_,ha,_⟩:=h;exact ha.len.2
end
end L2
end
section
namespace L2
open PySem PySem.Spec PyProof.Rows
def Prm.two (r:Fg->R2) (f:PyData->PyData->Option PR) (ok:∀ (K:Fg) (F:Addr->Prop) (H:Hp) (x y:PyData) (u v:V) (pr:PR) (Q:VK),f x y=some pr->Vw K F H x u->Vw K F H y v->(∀ b,F b->H b≠none)->(∀ w H',aY H H'->xQ K F H H' pr w->Q w H')->r K u v H Q):Prm where
 r:=fun K vs H Q=>match vs with | [u,v]=>r K u v H Q | _=>False
 f:=fun ds=>match ds with | [x,y]=>f x y | _=>none
 ok:=fun K F H ds vs pr Q hf hv hd q=>by
  match ds,hf with
  | [x,y],hf =>
   obtain ⟨u,r1,rfl,h1,v,r2,rfl,h2,rfl⟩:=hv;exact ok K F H x y u v pr Q hf h1 h2 hd q
def Prm.one (r:Fg->V->Hp->VK->Prop) (f:PyData->Option PR) (ok:∀ (K:Fg) (F:Addr->Prop) (H:Hp) (x:PyData) (u:V) (pr:PR) (Q:VK),f x=some pr->Vw K F H x u->(∀ b,F b->H b≠none)->(∀ w H',aY H H'->xQ K F H H' pr w->Q w H')->r K u H Q):Prm where
 r:=fun K vs H Q=>match vs with | [u]=>r K u H Q | _=>False
 f:=fun ds=>match ds with | [x]=>f x | _=>none
 ok:=fun K F H ds vs pr Q hf hv hd q=>by
  match ds,hf with
  | [x],hf =>
   obtain ⟨u,r1,rfl,h1,rfl⟩:=hv;exact ok K F H x u pr Q hf h1 hd q
section
variable {K:Fg} {F F':Addr->Prop} {H:Hp}
theorem vInt {i:Int} {v:V} (h:Vw K F H (.int i) v):v=.int i:=h
theorem vBl {b:Bool} {v:V} (h:Vw K F H (.bool b) v):v=.bl b:=h
theorem DV {v:V} (h:Vw K F H .none v):v=.non:=h
theorem vStr {x:Str} {v:V} (h:Vw K F H (.str x) v):v=.str x/\x.length<=sizeLine/\PyData.strOk x=true:=h
theorem pP {ds:List PyData} {v:V} (h:Vw K F H (.list ds) v):∃ a xs,v=.ref a/\SqL K H a xs/\xs.length<=sizeLine/\DmL K F H ds xs:=let ⟨a,e,xs,r⟩:=h;⟨a,xs,e,r⟩
theorem qW {ds:List PyData} {v:V} (h:Vw K F H (.tuple ds) v):∃ a xs,v=.ref a/\SqT K H a xs/\xs.length<=sizeLine/\DmL K F H ds xs:=h
theorem CB {p:Addr} {xs:List V} {ds:List PyData} (hp:H p=none) (hz:xs.length<=sizeLine) (h:DmL K F H ds xs):xQ K F H (upd H p (.lst xs)) (.frs (.list ds)) (.ref p) :=
 ⟨p,rfl,hp,xs,aF,hz,(h.fresh hp).pr (Pr.of_same (aY.nw _ hp)) fun _ z=>z⟩
theorem Fw {p:Addr} {xs:List V} {ds:List PyData} (hp:H p=none) (hz:xs.length<=sizeLine) (h:DmL K F H ds xs):xQ K F H (upd H p (.tup xs)) (.dat (.tuple ds)) (.ref p) :=
 ⟨p,xs,rfl,.inl (.inl aF),hz,h.pr (Pr.of_same (aY.nw _ hp)) fun _ z=>z⟩
end
def GW:PyData->PyData->Option PR
 | .int i,.int j=>some (.dat (.int (i+j)))
 | .str x,.str y=>if x.length+y.length<=sizeLine then some (.dat (.str (x++y))) else none
 | .list xs,.list ys=>if xs.length+ys.length<=sizeLine then some (.frs (.list (xs++ys))) else none
 | .tuple (x :: xs),.tuple ys=>if (x :: xs).length+ys.length<=sizeLine then some (.dat (.tuple ((x :: xs)++ys))) else none
 | _,_=>none
def Gh (K:Fg):R2:=rOr (rI0 fun i j=>.int (i+j)) (rOr BY (rOr (z9 K) (Af K)))
theorem jD (x y:Str):(x++y).length=x.length+y.length:=by
 show (x.cps++y.cps).size=_;rw [Array.size_append];rfl
def dW:Prm:=Prm.two Gh GW fun K F H x y u v pr Q hf hx hy hd q=>by
 unfold GW at hf;split at hf
 ·cases hf;rw [vInt hx,vInt hy];exact .inl ⟨_,_,rfl,rfl,q _ H (aY.rf H) rfl⟩
 ·split at hf
  ·rename_i x y hl;cases hf;obtain ⟨rfl,l1,o1⟩:=vStr hx;obtain ⟨rfl,l2,o2⟩:=vStr hy;exact .inr (.inl ⟨_,_,rfl,rfl,hl,q _ H (aY.rf H) ⟨rfl,by rw [jD];exact hl,mn o1 o2⟩⟩)
  ·cases hf
 ·split at hf
  ·rename_i xs ys hl;cases hf;obtain ⟨a,us,rfl,s1,z1,d1⟩:=pP hx;obtain ⟨b,ws,rfl,s2,z2,d2⟩:=pP hy;have hl':us.length+ws.length<=sizeLine:=by rw [d1.len,d2.len];exact hl
   exact .inr (.inr (.inl ⟨a,b,us,ws,rfl,rfl,s1,s2,hl',fun p hp=>q _ _ (aY.nw _ hp) (CB hp (by rw [Ic];exact hl') (d1.app d2))⟩))
  ·cases hf
 ·split at hf
  ·rename_i x xs ys hl;cases hf;obtain ⟨a,us,rfl,s1,z1,d1⟩:=qW hx;obtain ⟨b,ws,rfl,s2,z2,d2⟩:=qW hy;have hl':us.length+ws.length<=sizeLine:=by rw [d1.len,d2.len];exact hl
   have hne:us≠[]:=fun z=>by rw [z] at d1;obtain ⟨v,r,e,_⟩:=d1;cases e
   refine .inr (.inr (.inr ⟨a,b,us,ws,rfl,rfl,s1,s2,hne,hl',fun z=>?_,fun z p hp=>q _ _ (aY.nw _ hp) (Fw hp (by rw [Ic];exact hl') (d1.app d2))⟩));subst z;have hys:ys=[]:=by
    cases ys with
    | nil=>rfl
    | cons y ys=>obtain ⟨v,r,e,_⟩:=d2;cases e
   subst hys;exact q _ H (aY.rf H) ⟨a,us,rfl,s1,z1,by rw [Jd];exact d1⟩
  ·cases hf
 ·cases hf
theorem bt {X:Cx}:OpR X (binaryOp .Add) (fun x y=>dW.r X.K [x,y]):=orR Cv (orR zC (orR yT yL))
def zS (c:Int->Int->Bool) (g:Int->Int->PyData):PyData->PyData->Option PR
 | .int i,.int j=>if c i j=true then some (.dat (g i j)) else none
 | _,_=>none
def Prm.ints (C:Int->Int->Prop) (c:Int->Int->Bool) (hc:∀ i j,c i j=true->C i j) (g:Int->Int->Int):Prm:=Prm.two (fun _=>rI C fun i j=>.int (g i j)) (zS c fun i j=>.int (g i j)) fun K F H x y u v pr Q hf hx hy hd q=>by
 unfold zS at hf;split at hf
 ·split at hf
  ·rename_i h;cases hf;rw [vInt hx,vInt hy];exact ⟨_,_,rfl,rfl,hc _ _ h,q _ H (aY.rf H) rfl⟩
  ·cases hf
 ·cases hf
def Prm.B4 (g:Int->Int->Bool):Prm:=Prm.two (fun _=>rI0 fun i j=>.bl (g i j)) (zS (fun _ _=>true) fun i j=>.bool (g i j)) fun K F H x y u v pr Q hf hx hy hd q=>by
 unfold zS at hf;split at hf
 ·rw [Ip rfl] at hf;cases hf;rw [vInt hx,vInt hy];exact ⟨_,_,rfl,rfl,q _ H (aY.rf H) rfl⟩
 ·cases hf
def EB:Prm:=Prm.two (fun _=>rI0 fun i j=>.int (i - j)) (zS (fun _ _=>true) fun i j=>.int (i - j)) fun K F H x y u v pr Q hf hx hy hd q=>by
 unfold zS at hf;split at hf
 ·rw [Ip rfl] at hf;cases hf;rw [vInt hx,vInt hy];exact ⟨_,_,rfl,rfl,q _ H (aY.rf H) rfl⟩
 ·cases hf
theorem yq {X:Cx}:OpR X (binaryOp .Sub) (fun x y=>EB.r X.K [x,y]):=C1
def mulC (i j:Int):Bool:=(decide (-(2 ^ 64) < i)&&decide (i < 2 ^ 64))||(decide (-(2 ^ 64) < j)&&decide (j < 2 ^ 64))
def n8:Prm:=Prm.ints BR mulC (fun i j h=>by simpa [mulC,BR,Bool.or_eq_true,Ji,KO] using h) (fun i j=>i*j)
theorem fK {X:Cx}:OpR X (binaryOp .Mult) (fun x y=>n8.r X.K [x,y]):=Ae
def kN:Prm:=Prm.ints (fun _ j=>0 < j) (fun _ j=>decide (0 < j)) (fun i j h=>by simpa using h) (fun i j=>i % j)
theorem dM {X:Cx}:OpR X (binaryOp .Mod) (fun x y=>kN.r X.K [x,y]):=Cc
def oE:Prm:=Prm.ints (fun _ j=>0 < j/\j.natAbs.log2 < 9000) (fun _ j=>decide (0 < j)&&decide (j < 2 ^ 200)) (fun i j h=>by
 simp only [Ji,KO] at h;refine ⟨h.1,?_⟩;have hz:j.natAbs≠0:=by omega
 have:j.natAbs < 2 ^ 200:=by omega
 exact II ((Nat.log2_lt hz).mpr this) (by decide)) (fun i j=>i / j)
theorem lp {X:Cx}:OpR X (binaryOp .FloorDiv) (fun x y=>oE.r X.K [x,y]):=vR
def zN:Prm:=Prm.ints GN (fun i j=>decide (0<=j)&&decide (j<=1000000)&&decide (i.natAbs < 2 ^ 64)) (fun i j h=>by simp only [Ji,KO] at h;exact ⟨h.1.1,h.1.2,h.2⟩) (fun i j=>i ^ j.toNat)
theorem nC {X:Cx}:OpR X (binaryOp .Pow) (fun x y=>zN.r X.K [x,y]):=z6
def HR:Prm:=Prm.one (fun _=>rU fun i=>.int (-i)) (fun x=>match x with | .int i=>some (.dat (.int (-i))) | _=>none) fun K F H x u pr Q hf hx hd q=>by
 split at hf
 ·cases hf;rw [vInt hx];exact ⟨_,rfl,q _ H (aY.rf H) rfl⟩
 ·cases hf
def Dv (g:Int->Int->Bool) (h:Str->Str->Bool):PyData->PyData->Option PR
 | .int i,.int j=>some (.dat (.bool (g i j)))
 | .str x,.str y=>some (.dat (.bool (h x y)))
 | _,_=>none
def ltS (x y:Str):Bool:=decide (x.cps.toList < y.cps.toList)
def leS (x y:Str):Bool:=!decide (y.cps.toList < x.cps.toList)
def ltP:Prm:=Prm.two (fun _=>rOr (rI0 fun i j=>.bl (decide (i < j))) GI) (Dv (fun i j=>decide (i < j)) ltS) fun K F H x y u v pr Q hf hx hy hd q=>by
 unfold Dv at hf;split at hf
 ·cases hf;rw [vInt hx,vInt hy];exact .inl ⟨_,_,rfl,rfl,q _ H (aY.rf H) rfl⟩
 ·cases hf;rw [(vStr hx).1,(vStr hy).1];exact .inr ⟨_,_,rfl,rfl,q _ H (aY.rf H) rfl⟩
 ·cases hf
theorem xE {X:Cx}:OpR X (compareOp .Lt) (fun x y=>ltP.r X.K [x,y]):=orR Fx Cm
def leP:Prm:=Prm.two (fun _=>rOr (rI0 fun i j=>.bl (decide (i<=j))) GH) (Dv (fun i j=>decide (i<=j)) leS) fun K F H x y u v pr Q hf hx hy hd q=>by
 unfold Dv at hf;split at hf
 ·cases hf;rw [vInt hx,vInt hy];exact .inl ⟨_,_,rfl,rfl,q _ H (aY.rf H) rfl⟩
 ·cases hf;rw [(vStr hx).1,(vStr hy).1];exact .inr ⟨_,_,rfl,rfl,q _ H (aY.rf H) rfl⟩
 ·cases hf
theorem lT {X:Cx}:OpR X (compareOp .LtE) (fun x y=>leP.r X.K [x,y]):=orR EO Ai
def gtP:Prm:=Prm.B4 fun i j=>decide (i > j)
theorem uQ {X:Cx}:OpR X (compareOp .Gt) (fun x y=>gtP.r X.K [x,y]):=Eg
def geP:Prm:=Prm.B4 fun i j=>decide (i>=j)
theorem B6 {X:Cx}:OpR X (compareOp .GtE) (fun x y=>geP.r X.K [x,y]):=Ft
mutual
def noD:PyData->Bool
 | .dict _=>false
 | .list xs=>j0 xs
 | .tuple xs=>j0 xs
 | _=>true
def j0:List PyData->Bool
 | []=>true
 | x :: xs=>noD x&&j0 xs
end
section
variable {K:Fg} {F:Addr->Prop} {H:Hp}
mutual
theorem Dm.lay:∀ {d:PyData} {v:V},Dm K F H d v->noD d=true->d.canLay0=true
 | .none,v,h,_=>by simp [PyData.canLay0]
 | .bool b,v,h,_=>by simp [PyData.canLay0]
 | .int i,v,h,_=>by simp [PyData.canLay0]
 | .str x,v,h,_=>by simpa [PyData.canLay0] using h.2.2
 | .list ds,v,h,n=>by obtain ⟨a,xs,e,l,z,r⟩:=h;simpa [PyData.canLay0] using DmL.lay r (by simpa [noD] using n)
 | .tuple ds,v,h,n=>by obtain ⟨a,xs,e,l,z,r⟩:=h;simpa [PyData.canLay0] using DmL.lay r (by simpa [noD] using n)
 | .dict kvs,v,h,n=>by simp [noD] at n
theorem DmL.lay:∀ {ds:List PyData} {vs:List V},DmL K F H ds vs->j0 ds=true->PyData.canLayAll0 ds=true
 | [],vs,h,_=>by simp [PyData.canLayAll0]
 | d :: ds,vs,h,n=>by
  obtain ⟨v,r,e,h1,h2⟩:=h;have n':noD d=true/\j0 ds=true:=by simpa [j0] using n
  simp [PyData.canLayAll0,Dm.lay h1 n'.1,DmL.lay h2 n'.2]
end
theorem Vw.lay {d:PyData} {v:V} (h:Vw K F H d v) (n:noD d=true):d.canLay0=true:=by
 cases d with
 | list ds=>obtain ⟨a,xs,e,l,z,r⟩:=pP h;simpa [PyData.canLay0] using DmL.lay r (by simpa [noD] using n)
 | dict ds=>simp [noD] at n
 | _=>exact Dm.lay (K:=K) (F:=F) (H:=H) h n
variable {X:Cx} {pins:List (Addr×Obj)} {σ:St} {s:Shared}
mutual
theorem Dm.reads (I:Inv X pins σ H s):∀ {d:PyData} {v:V} {u:Value},Dm X.K F H d v->noD d=true->RelV v u->∃ as,Reads s.heap u d as
 | .none,v,u,hd,_,r=>by
  have e:v=.non:=hd;subst e;cases (show u=Value.none from r);exact ⟨_,.none⟩
 | .bool b,v,u,hd,_,r=>by
  have e:v=.bl b:=hd;subst e;cases (show u=Value.bool b from r);exact ⟨_,.bool b⟩
 | .int i,v,u,hd,_,r=>by
  have e:v=.int i:=hd;subst e;obtain ⟨t,e⟩:=(show ∃ t,u=Value.int i t from r);subst e;exact ⟨_,.int i t⟩
 | .str y,v,u,hd,_,r=>by
  have e:v=.str y:=hd.1;subst e;obtain ⟨t,e⟩:=(show ∃ t,u=Value.str y t from r);subst e;exact ⟨_,.str y t⟩
 | .list ds,v,u,hd,n,r=>by
  obtain ⟨a,xs,e,l,z,rs⟩:=hd;subst e;cases (show u=Value.ref a from r);obtain ⟨its,rv,⟨o,k,h1,h2,h3,h4⟩,_⟩:=I.list (l.elim (fun q=>.inl q.2) .inr);obtain ⟨as,ra⟩:=DmL.reads I rs (by simpa [noD] using n) rv;exact ⟨_,.list h1 h2 h4 (by simpa using ra)⟩
 | .tuple ds,v,u,hd,n,r=>by
  obtain ⟨a,xs,e,l,z,rs⟩:=hd;subst e;cases (show u=Value.ref a from r);obtain ⟨its,rv,⟨o,h1,h2,k,h4⟩,_⟩:=I.tuple l;obtain ⟨as,ra⟩:=DmL.reads I rs (by simpa [noD] using n) rv;exact ⟨_,.tuple h1 h2 h4 (by simpa using ra)⟩
 | .dict kvs,v,u,hd,n,r=>by simp [noD] at n
theorem DmL.reads (I:Inv X pins σ H s):∀ {ds:List PyData} {vs:List V} {us:List Value},DmL X.K F H ds vs->j0 ds=true->Vals vs us->∃ as,ReadsAll s.heap us ds as
 | [],vs,us,hd,_,r=>by
  have e:vs=[]:=hd;subst e;cases r;exact ⟨_,.nil⟩
 | d :: ds,vs,us,hd,n,r=>by
  obtain ⟨v,rr,e,h1,h2⟩:=hd;have n':noD d=true/\j0 ds=true:=by simpa [j0] using n
  subst e;cases r with
  | cons r1 r2 =>
   obtain ⟨as,q1⟩:=Dm.reads I h1 n'.1 r1;obtain ⟨bs,q2⟩:=DmL.reads I h2 n'.2 r2;exact ⟨_,.cons q1 q2⟩
end
theorem Vw.reads (I:Inv X pins σ H s) {d:PyData} {v:V} {u:Value} (h:Vw X.K F H d v) (n:noD d=true) (r:RelV v u):∃ as,Reads s.heap u d as:=by
 cases d with
 | list ds =>
  obtain ⟨a,xs,rfl,l,z,rs⟩:=pP h;cases (show u=Value.ref a from r);obtain ⟨its,rv,⟨o,k,h1,h2,h3,h4⟩,_⟩:=I.list l;obtain ⟨as,ra⟩:=DmL.reads I rs (by simpa [noD] using n) rv;exact ⟨_,.list h1 h2 h4 (by simpa using ra)⟩
 | dict ds=>simp [noD] at n
 | _=>exact Dm.reads (F:=F) I h n r
end
def kH (d:PyData):Bool:=noD d&&decide (d.depth<=64)
def HH (neg:Bool) (K:Fg):R2:=fun x y H Q=>∃ F d e,Vw K F H d x/\Vw K F H e y/\kH d=true/\kH e=true/\Q (.bl (if neg then !PyData.eqv d e else PyData.eqv d e)) H
def eqD (neg:Bool) (d e:PyData):Option PR:=if kH d=true/\kH e=true then some (.dat (.bool (if neg then !PyData.eqv d e else PyData.eqv d e))) else none
def Dr (neg:Bool):Prm:=Prm.two (HH neg) (eqD neg) fun K F H x y u v pr Q hf hx hy hd q=>by
 unfold eqD at hf;split at hf
 ·rename_i h;cases hf;exact ⟨F,x,y,hx,hy,h.1,h.2,q _ H (aY.rf H) rfl⟩
 ·cases hf
abbrev eqP:Prm:=Dr false
abbrev neP:Prm:=Dr true
theorem fV {K:Fg} {F:Addr->Prop} {H:Hp} {d:PyData} {v:V} (h:Vw K F H d v) (o:kH d=true):SeqAt.shaped d=true:=by
 have o':noD d=true/\d.depth<=64:=by simpa [kH] using o
 simp [SeqAt.shaped,h.lay o'.1,o'.2]
theorem kB {X:Cx} (hu:X.A.units+64 < cLine):OpR X (compareOp .Eq) (fun x y=>eqP.r X.K [x,y]):=by
 intro pins s σ H x y v u Q I rx ry h;obtain ⟨F,d,e,h1,h2,o1,o2,hq⟩:=h;obtain ⟨as,r1⟩:=h1.reads I (by have:=o1;simp [kH] at this;exact this.1) rx;obtain ⟨bs,r2⟩:=h2.reads I (by have:=o2;simp [kH] at this;exact this.1) ry;exact SeqAt.compareEq_shaped r1 r2 (fV h1 o1) (fV h2 o2) hu ⟨.bl _,H,I,rfl,hq⟩
theorem tQ {X:Cx} (hu:X.A.units+64 < cLine):OpR X (compareOp .NotEq) (fun x y=>neP.r X.K [x,y]):=by
 intro pins s σ H x y v u Q I rx ry h;obtain ⟨F,d,e,h1,h2,o1,o2,hq⟩:=h;obtain ⟨as,r1⟩:=h1.reads I (by have:=o1;simp [kH] at this;exact this.1) rx;obtain ⟨bs,r2⟩:=h2.reads I (by have:=o2;simp [kH] at this;exact this.1) ry;exact SeqAt.compareNe_shaped r1 r2 (fV h1 o1) (fV h2 o2) hu ⟨.bl _,H,I,rfl,hq⟩
def sD:PyData->Bool | .none=>true | _=>false
def ixD:PyData->PyData->Option PR
 | .list xs,.int i=>(atI xs i).map .dat
 | .tuple xs,.int i=>(atI xs i).map .dat
 | .str x,.int i=>(atI x.cps.toList i).map fun c=>.dat (.str ⟨#[c]⟩)
 | _,_=>none
theorem xB {K:Fg} {F:Addr->Prop} {H:Hp} {ds:List PyData} {xs:List V} {i:Int} {d:PyData} (h:DmL K F H ds xs) (e:atI ds i=some d):∃ v,atI xs i=some v/\Dm K F H d v:=by
 unfold atI at e ⊢;rw [h.len];cases q:ixN ds.length i with
 | none=>rw [q] at e;cases e
 | some j =>
  rw [q] at e;have e:ds[j]?=some d:=e;exact h.get e
theorem xY {α:Type} {xs:List α} {i:Int} {x:α} (e:atI xs i=some x):x∈xs:=by
 unfold atI at e;cases q:ixN xs.length i with
 | none=>rw [q] at e;cases e
 | some j=>rw [q] at e;exact IM (show xs[j]?=some x from e)
def ixP:Prm:=Prm.two rIx ixD fun K F H x y u v pr Q hf hx hy hd q=>by
 unfold ixD at hf;split at hf
 ·obtain ⟨d,e,rfl⟩:=Je.mp hf;obtain ⟨a,us,rfl,s1,z1,d1⟩:=pP hx;rw [vInt hy];obtain ⟨v,ev,dv⟩:=xB d1 e;exact .inl ⟨a,us,_,v,rfl,rfl,s1,ev,q _ H (aY.rf H) dv⟩
 ·obtain ⟨d,e,rfl⟩:=Je.mp hf;obtain ⟨a,us,rfl,s1,z1,d1⟩:=qW hx;rw [vInt hy];obtain ⟨v,ev,dv⟩:=xB d1 e;exact .inr (.inl ⟨a,us,_,v,rfl,rfl,s1,ev,q _ H (aY.rf H) dv⟩)
 ·rename_i x i;obtain ⟨c,e,rfl⟩:=Je.mp hf;obtain ⟨rfl,l1,o1⟩:=vStr hx;rw [vInt hy];have hc:=fW o1 c (xY e);exact .inr (.inr ⟨_,_,c,rfl,rfl,l1,e,q _ H (aY.rf H) ⟨rfl,by show 1<=sizeLine;decide,by simp [PyData.strOk,hc]⟩⟩)
 ·cases hf
theorem bJ {X:Cx}:IxR X (fun x y=>ixP.r X.K [x,y]):=CJ
def cutD {α:Type} (xs:List α) (lo hi:Option Int):List α:=(xs.drop (HT.sIx xs.length 0 lo)).take (HT.sIx xs.length xs.length hi - HT.sIx xs.length 0 lo)
def slD (lo hi:Option Int):PyData->Option PR
 | .list xs=>some (.frs (.list (cutD xs lo hi)))
 | .tuple xs=>if HT.sIx xs.length 0 lo=0/\HT.sIx xs.length xs.length hi=xs.length then none else some (.dat (.tuple (cutD xs lo hi)))
 | .str x=>some (.dat (.str (vd x lo hi)))
 | _=>none
def Gp (K:Fg) (lo hi:Option Int):V->Hp->VK->Prop:=fun x H Q=>vh B0 (vh (Cs K) (B8 K)) x lo hi H Q
section
variable {K:Fg} {F:Addr->Prop} {H:Hp}
theorem DmL.drop:∀ {ds:List PyData} {xs:List V} (n:Nat),DmL K F H ds xs->DmL K F H (ds.drop n) (xs.drop n)
 | ds,xs,0,h=>h
 | [],xs,n+1,h=>by rw [show xs=[] from h];rfl
 | d :: ds,xs,n+1,h=>by obtain ⟨v,r,rfl,_,h2⟩:=h;exact DmL.drop n h2
theorem DmL.take:∀ {ds:List PyData} {xs:List V} (n:Nat),DmL K F H ds xs->DmL K F H (ds.take n) (xs.take n)
 | ds,xs,0,h=>by rw [List.take_zero,List.take_zero];rfl
 | [],xs,n+1,h=>by rw [show xs=[] from h];rfl
 | d :: ds,xs,n+1,h=>by obtain ⟨v,r,rfl,h1,h2⟩:=h;exact ⟨v,_,rfl,h1,DmL.take n h2⟩
theorem DmL.cut {ds:List PyData} {xs:List V} (lo hi:Option Int) (h:DmL K F H ds xs):DmL K F H (cutD ds lo hi) (vf xs lo hi):=by
 unfold cutD vf;rw [h.len];exact (h.drop _).take _
theorem oP (xs:List V) (lo hi:Option Int):(vf xs lo hi).length<=xs.length:=by
 unfold vf;rw [Jh,JD];omega
theorem q0 {x:Str} (lo hi:Option Int) (h:PyData.strOk x=true):PyData.strOk (vd x lo hi)=true:=by
 have hm:=fW h;unfold PyData.strOk vd;rw [Array.all_eq_true'];intro c hc;have:c∈(x.cps.toList.drop (HT.sIx x.length 0 lo)).take (HT.sIx x.length x.length hi - HT.sIx x.length 0 lo):=by simpa using hc
 have:=hm c (List.mem_of_mem_drop (List.mem_of_mem_take this));simpa using this
theorem Bh {lo hi:Option Int} {x:PyData} {u:V} {pr:PR} {Q:VK} (hf:slD lo hi x=some pr) (hx:Vw K F H x u) (q:∀ w H',aY H H'->xQ K F H H' pr w->Q w H'):Gp K lo hi u H Q:=by
 unfold slD at hf;split at hf
 ·cases hf;obtain ⟨a,us,rfl,s1,z1,d1⟩:=pP hx;exact .inr (.inl ⟨a,us,rfl,s1,fun p hp=>q _ _ (aY.nw _ hp) (CB hp (IY (oP _ _ _) z1) (d1.cut lo hi))⟩)
 ·split at hf
  ·cases hf
  rename_i hn;cases hf;obtain ⟨a,us,rfl,s1,z1,d1⟩:=qW hx;exact .inr (.inr ⟨a,us,rfl,s1,by rw [d1.len];exact hn,fun p hp=>q _ _ (aY.nw _ hp) (Fw hp (IY (oP _ _ _) z1) (d1.cut lo hi))⟩)
 ·cases hf;obtain ⟨rfl,l1,o1⟩:=vStr hx;exact .inl ⟨_,rfl,l1,q _ H (aY.rf H) ⟨rfl,IY (iY _ _ _) l1,q0 lo hi o1⟩⟩
 ·cases hf
end
def Hq:Prm:=Prm.two (fun K x y H Q=>∃ i,y=.int i/\Gp K (some i) none x H Q) (fun x y=>match y with | .int i=>slD (some i) none x | _=>none) fun K F H x y u v pr Q hf hx hy hd q=>by
 split at hf
 ·exact ⟨_,vInt hy,Bh hf hx q⟩
 ·cases hf
def GS:Prm:=Prm.two (fun K x y H Q=>∃ i,y=.int i/\Gp K none (some i) x H Q) (fun x y=>match y with | .int i=>slD none (some i) x | _=>none) fun K F H x y u v pr Q hf hx hy hd q=>by
 split at hf
 ·exact ⟨_,vInt hy,Bh hf hx q⟩
 ·cases hf
def GU:PyData->Option PR
 | .str x=>some (.dat (.int x.length))
 | .list xs=>some (.dat (.int xs.length))
 | .tuple xs=>some (.dat (.int xs.length))
 | _=>none
def fk:Prm:=Prm.one (fun K x=>Dk K [x]) GU fun K F H x u pr Q hf hx hd q=>by
 unfold GU at hf;split at hf
 ·cases hf;obtain ⟨rfl,l1,o1⟩:=vStr hx;exact BV l1 (q _ H (aY.rf H) rfl)
 ·cases hf;obtain ⟨a,us,rfl,s1,z1,d1⟩:=pP hx;exact Bc s1 (q _ H (aY.rf H) (by rw [d1.len];rfl))
 ·cases hf;obtain ⟨a,us,rfl,s1,z1,d1⟩:=qW hx;exact C7 s1 (q _ H (aY.rf H) (by rw [d1.len];rfl))
 ·cases hf
theorem lP {X:Cx} {f:Value} {r:List V->Hp->VK->Prop} {r':V->Hp->VK->Prop} (h:bM X f r) (e:∀ x H Q,r' x H Q->r [x] H Q):bM X f (fun vs H Q=>match vs with | [u]=>r' u H Q | _=>False):=by
 intro pins s σ H xs us Q I rv q
 match xs,q with
 | [x],q=>exact h pins s σ H [x] us Q I rv (e x H Q q)
theorem bR {X:Cx}:bM X (.builtin "len") (fk.r X.K):=lP uf fun _ _ _ h=>h
def yy:Prm:=Prm.one (fun _ x=>ET [x]) (fun x=>match x with | .int i=>some (.dat (.int (if i < 0 then -i else i))) | _=>none) fun K F H x u pr Q hf hx hd q=>by
 split at hf
 ·cases hf;rw [vInt hx];exact Fb (q _ H (aY.rf H) rfl)
 ·cases hf
theorem nQ {X:Cx}:bM X (.builtin "abs") (yy.r X.K):=lP um fun _ _ _ h=>h
def zZ (T:String) (x:PyData):Option PR:=match T with
 | "str" => some (.dat (.bool (isS x)))
 | "int" => some (.dat (.bool (isI x)))
 | "bool" => some (.dat (.bool (isB x)))
 | "tuple" => some (.dat (.bool (isT x)))
 | "list" => some (.dat (.bool (isL x)))
 | _=>none
def Eo (T:String) (K:Fg):V->Hp->VK->Prop:=fun x H Q=>∃ F d b,Vw K F H d x/\zZ T d=some (.dat (.bool b))/\Q (.bl b) H
theorem FO {T:String} {d:PyData} {pr:PR} (h:zZ T d=some pr):∃ b,pr=.dat (.bool b):=by
 unfold zZ at h;split at h <;> first | (cases h;exact ⟨_,rfl⟩) | cases h
def nq (T:String):Prm:=Prm.one (Eo T) (zZ T) fun K F H x u pr Q hf hx hd q=>by
 obtain ⟨b,rfl⟩:=FO hf;exact ⟨F,x,b,hx,hf,q _ H (aY.rf H) rfl⟩
theorem zL {K:Fg} {T:String} {d:PyData} {b:Bool} (h:zZ T d=some (.dat (.bool b))):PySem.W.kitOne K (.type (tyN d)) (.type T)=some b:=by
 unfold zZ at h;split at h
 ·cases h;exact FW d
 ·cases h;exact E8 d
 ·cases h;exact Ec d
 ·cases h;exact BM d
 ·cases h;exact AL d
 ·cases h
def Hr (K:Fg):List V->Hp->VK->Prop:=fun vs H Q=>match vs with | [x,.ty T]=>(nq T).r K [x] H Q | _=>False
theorem yf {X:Cx}:bM X (.builtin "isinstance") (Hr X.K):=by
 intro pins s σ H xs us Q I r h
 match xs,h with
 | [x,.ty T'],h =>
  obtain ⟨F,d,b,hv,hb,q⟩:=h;obtain ⟨u,w',rfl,r1,r2⟩:=vals2 r;cases (show w'=Value.type T' from r2);have e:=zL (K:=X.K) hb;have fin:∀ tk,EP X pins σ Q (.bool b) { s with toks:=tk }:=fun tk=>⟨.bl b,H,I.tok _,rfl,q⟩;cases d with
  | none=>rw [DV hv] at r1;cases (show u=Value.none from r1);exact J1 PySem.W.kitx_none I.kIn True.intro e (fun z=>nomatch z) fin
  | bool y=>rw [vBl hv] at r1;cases (show u=Value.bool y from r1);exact J1 PySem.W.kitx_bool I.kIn True.intro e (fun z=>nomatch z) fin
  | int i=>rw [vInt hv] at r1;obtain ⟨t,q⟩:=(show ∃ t,u=Value.int i t from r1);cases q;exact J1 PySem.W.kitx_int I.kIn True.intro e (fun z=>nomatch z) fin
  | str y=>rw [(vStr hv).1] at r1;obtain ⟨t,q⟩:=(show ∃ t,u=Value.str y t from r1);cases q;exact J1 PySem.W.kitx_str I.kIn True.intro e (fun z=>nomatch z) fin
  | list ds =>
   obtain ⟨a,xs,rfl,l,z,rs⟩:=pP hv;cases (show u=Value.ref a from r1);obtain ⟨its,rv,⟨o,k,h1,h2,h3,h4⟩,_⟩:=I.list l;exact J1 PySem.W.kitx_list I.kIn ⟨o,h1,h2⟩ e (fun z=>nomatch z) fin
  | tuple ds =>
   obtain ⟨a,xs,rfl,l,z,rs⟩:=qW hv;cases (show u=Value.ref a from r1);obtain ⟨its,rv,⟨o,h1,h2,k,h4⟩,_⟩:=I.tuple l;exact J1 PySem.W.kitx_tuple I.kIn ⟨o,h1,h2⟩ e (fun z=>nomatch z) fin
  | dict ds =>
   obtain ⟨a,rfl,ep,xs,ea,_⟩:=hv;cases (show u=Value.ref a from r1);obtain ⟨_,_,_,o,es,h1,h2,_⟩:=(show bN X.prog X.w H s.heap a (.dD ep xs) from I.hok a _ ea);exact J1 PySem.W.kitx_dict I.kIn ⟨o,h1,h2.1⟩ e (fun z=>nomatch z) fin
def chars (x:Str):List PyData:=x.cps.toList.map fun c=>.str ⟨#[c]⟩
def fP (x:Str):List V:=x.cps.toList.map fun c=>.str ⟨#[c]⟩
def Bu (K:Fg):V->Hp->VK->Prop:=fun x H Q=>Cg K [x] H Q\/∃ z,x=.str z/\z.length<=sizeLine/\∀ p,H p=none->Q (.ref p) (upd H p (.lst (fP z)))
def C6:PyData->Option PR
 | .list xs=>some (.frs (.list xs))
 | .tuple xs=>some (.frs (.list xs))
 | .str x=>some (.frs (.list (chars x)))
 | _=>none
def yZ:Prm:=Prm.one Bu C6 fun K F H x u pr Q hf hx hd q=>by
 unfold C6 at hf;split at hf
 ·cases hf;obtain ⟨a,us,rfl,s1,z1,d1⟩:=pP hx;exact .inl ⟨a,us,rfl,.inl s1,fun p hp=>q _ _ (aY.nw _ hp) (CB hp z1 d1)⟩
 ·cases hf;obtain ⟨a,us,rfl,s1,z1,d1⟩:=qW hx;exact .inl ⟨a,us,rfl,.inr s1,fun p hp=>q _ _ (aY.nw _ hp) (CB hp z1 d1)⟩
 ·cases hf;obtain ⟨rfl,l1,o1⟩:=vStr hx;refine .inr ⟨_,rfl,l1,fun p hp=>q _ _ (aY.nw _ hp) (CB hp ?_ (xS (fW o1)))⟩;rw [show (fP _).length=_ from Ig _];simpa [Str.length] using l1
 ·cases hf
theorem o9:∀ {xs:List V} {us:List Value},xs.length=us.length->(∀ (i:Nat) (x:V) (u:Value),xs[i]?=some x->us[i]?=some u->RelV x u)->Vals xs us
 | [],[],_,_=>.nil
 | [],_ :: _,h,_=>by cases h
 | _ :: _,[],h,_=>by cases h
 | x :: xs,u :: us,h,q=>.cons (q 0 x u rfl rfl) (o9 (by simpa using h) fun i y w h1 h2=>q (i+1) y w (by simpa using h1) (by simpa using h2))
theorem qH {z:Str} {acc:Array Value} (h:ItemsOf (SignAt z) acc z.cps.size):Vals (fP z) acc.toList:=by
 refine o9 ?_ fun i x u h1 h2=>?_
 ·rw [show (fP z).length=_ from Ig _];simp [h.1]
 ·obtain ⟨c,t,hc,rfl⟩:=h.2 i u (by simpa using h2);unfold fP at h1;rw [IJ] at h1;have:z.cps.toList[i]?=some c:=by rw [<- hc];simp
  rw [this] at h1;cases h1;exact ⟨t,rfl⟩
theorem mB {X:Cx} (hc:X.calm=true):bM X (.type "list") (fun xs H Q=>∃ z,xs=[.str z]/\z.length<=sizeLine/\∀ p,H p=none->Q (.ref p) (upd H p (.lst (fP z)))):=by
 intro pins s σ H xs us Q I r h;obtain ⟨z,rfl,hl,q⟩:=h;obtain ⟨u,rfl,r1⟩:=vals1 r;obtain ⟨t,rfl⟩:=r1;have hz:(fP z).length<=sizeLine:=by rw [show (fP z).length=_ from Ig _];simpa [Str.length] using hl
 refine call_list_str (I.ok.hd hc) z t (fun h' tk acc' c' hk hS hacc=>?_) hl;refine ⟨.ref s.heap.objs.size,_,I.laid (t':=tk) hk (Iv _) (show bN X.prog X.w _ h' _ (.lst (fP z)) from ⟨hz,acc'.toList,c',?_,by rw [Array.toArray_toList];exact hS⟩),rfl,q _ (I.hok.fresh (Iv _))⟩;exact qH hacc
theorem wA {X:Cx} {f:Value} {r r':List V->Hp->VK->Prop} (h:bM X f r) (h':bM X f r'):bM X f (fun xs H Q=>r xs H Q\/r' xs H Q):=by
 intro pins s σ H xs us Q I rv q;rcases q with q | q
 ·exact h pins s σ H xs us Q I rv q
 ·exact h' pins s σ H xs us Q I rv q
theorem vv {X:Cx} (hc:X.calm=true):bM X (.type "list") (yZ.r X.K):=lP (wA qK (mB hc)) fun x H Q h=>h.imp id fun ⟨z,e,r⟩=>⟨z,by rw [e],r⟩
def wQ:PyData->Option PR
 | .list xs=>some (.dat (.tuple xs))
 | .tuple xs=>some (.dat (.tuple xs))
 | _=>none
def jm:Prm:=Prm.one (fun K x=>wO K [x]) wQ fun K F H x u pr Q hf hx hd q=>by
 unfold wQ at hf;split at hf
 ·cases hf;obtain ⟨a,us,rfl,s1,z1,d1⟩:=pP hx;exact ⟨a,us,rfl,.inl ⟨s1,fun p hp=>q _ _ (aY.nw _ hp) (Fw hp z1 d1)⟩⟩
 ·cases hf;obtain ⟨a,us,rfl,s1,z1,d1⟩:=qW hx;exact ⟨a,us,rfl,.inr ⟨s1,q _ H (aY.rf H) ⟨a,us,rfl,s1,z1,d1⟩⟩⟩
 ·cases hf
theorem jn {X:Cx}:bM X (.type "tuple") (jm.r X.K):=lP oJ fun _ _ _ h=>h
theorem af (s:String):PyData.strOk (Str.ofString s)=true:=by
 rw [Str.ofString_eq_toList];unfold PyData.strOk;rw [Array.all_eq_true'];intro c hc;have:c∈s.toList.map Char.toNat:=by simpa using hc
 obtain ⟨ch,_,rfl⟩:=Jn.mp this;have:=ch.valid;simp only [KO];rcases this with h | ⟨_,h⟩
 ·show ch.val.toNat < _;have:ch.val.toNat < 0xD800:=h;omega
 ·exact h
def i4:List PyData->Option (List Bool)
 | []=>some []
 | .bool b :: r=>match i4 r with | some bs=>some (b :: bs) | none=>none
 | _ :: _=>none
theorem tI {K:Fg} {F:Addr->Prop} {H:Hp}:∀ {ds:List PyData} {xs:List V} {bs:List Bool},i4 ds=some bs->DmL K F H ds xs->xs=bs.map V.bl
 | [],xs,bs,h,q=>by cases h;exact q
 | .bool b :: r,xs,bs,h,q=>by
  unfold i4 at h;split at h
  ·rename_i bs' h';cases h;obtain ⟨v,vr,rfl,h1,h2⟩:=q;rw [tI h' h2,show v=.bl b from h1];rfl
  ·cases h
 | .none :: r,xs,bs,h,q=>by cases h
 | .int _ :: r,xs,bs,h,q=>by cases h
 | .str _ :: r,xs,bs,h,q=>by cases h
 | .list _ :: r,xs,bs,h,q=>by cases h
 | .tuple _ :: r,xs,bs,h,q=>by cases h
 | .dict _ :: r,xs,bs,h,q=>by cases h
def zU:Prm:=Prm.one (fun K x=>Gy K [x]) (fun x=>match x with | .list ds=>(i4 ds).map fun bs=>.dat (.bool (bs.all id)) | _=>none) fun K F H x u pr Q hf hx hd q=>by
 split at hf
 ·obtain ⟨bs,e,rfl⟩:=Je.mp hf;obtain ⟨a,us,rfl,s1,z1,d1⟩:=pP hx;rw [tI e d1] at s1;exact ⟨a,bs,rfl,s1,q _ H (aY.rf H) rfl⟩
 ·cases hf
theorem tM {X:Cx} (hc:X.calm=true):bM X (.builtin "all") (zU.r X.K):=lP (uX hc) fun _ _ _ h=>h
theorem uV {K:Fg} {F:Addr->Prop} {H:Hp} {k:PyData}:∀ {ds:List (PyData×PyData)} {xs:List (PyData×V×V)},DmP K F H ds xs->(∀ d,getD ds k=some d->∃ v,uY xs k=some v/\Dm K F H d v)/\(getD ds k=none->uY xs k=none)
 | [],xs,h=>by
  rw [show xs=[] from h];exact ⟨fun d e=>(nomatch e),fun _=>rfl⟩
 | (k',d') :: ds,xs,h=>by
  obtain ⟨j,v,r,rfl,e,_,h1,h2⟩:=h;have ih:=uV (k:=k) h2;unfold getD uY at ih ⊢;rw [List.find?_cons,List.find?_cons];cases PyData.eqv k' k with
  | true=>exact ⟨fun d e=>(by cases e;exact ⟨v,rfl,h1⟩),fun e=>(nomatch e)⟩
  | false=>exact ih
mutual
theorem m7:∀ (d:PyData),hkB d=true->noD d=true
 | .int _,_=>rfl
 | .str _,_=>rfl
 | .tuple ds,h=>by rw [noD];exact sd ds h
 | .none,h=>by cases h
 | .bool _,h=>by cases h
 | .list _,h=>by cases h
 | .dict _,h=>by cases h
theorem sd:∀ (ds:List PyData),ve ds=true->j0 ds=true
 | [],_=>rfl
 | d :: ds,h=>by
  simp only [ve,Ji] at h;rw [j0,m7 d h.1,sd ds h.2];rfl
end
theorem kJ {d:PyData}:hk6 d=true↔hkB d=true/\d.depth<=6:=by simp [hk6]
theorem xW {K:Fg} {F:Addr->Prop} {H:Hp} {d:PyData} {v:V} (h:Vw K F H d v) (hk:hk6 d=true):kyB d=true:=by
 rw [kJ] at hk;exact aV.mpr ⟨hk.1,h.lay (m7 d hk.1),hk.2⟩
theorem zh {X:Cx} {pins:List (Addr×Obj)} {σ:St} {s:Shared} {F:Addr->Prop} {H:Hp} (I:Inv X pins σ H s):∀ {ds:List (PyData×PyData)} {xs:List (PyData×V×V)},DmP X.K F H ds xs->lC s.heap xs
 | [],xs,h=>by rw [show xs=[] from h];intro x hx;cases hx
 | (k,d) :: ds,xs,h=>by
  obtain ⟨j,v,r,rfl,hk,h0,_,h2⟩:=h;intro x hx;rcases Iz.mp hx with rfl | hx
  ·exact ⟨xW h0.vw hk,fun u ru=>h0.reads I (m7 _ (kJ.mp hk).1) ru⟩
  ·exact zh I h2 x hx
def DK (K:Fg) (H:Hp) (x y:V) (k:PyData) (a:Addr) (ep:Nat) (xs:List (PyData×V×V)):Prop:=∃ (F:Addr->Prop) (kvs:List (PyData×PyData)),x=.ref a/\H a=some (.dD ep xs)/\DmP K F H kvs xs/\Vw K F H k y/\hk6 k=true
def B9:PyData->PyData->Option PR
 | .dict kvs,k=>if hk6 k=true then (getD kvs k).map .dat else none
 | _,_=>none
def C5 (K:Fg):R2:=fun x y H Q=>∃ k a ep xs v,DK K H x y k a ep xs/\uY xs k=some v/\Q v H
def eR:Prm:=Prm.two C5 B9 fun K F H x y u v pr Q hf hx hy hd q=>by
 unfold B9 at hf;split at hf
 ·split at hf
  ·rename_i kvs _ hk;obtain ⟨d,e,rfl⟩:=Je.mp hf;obtain ⟨a,rfl,ep,xs,ea,_,r⟩:=hx;obtain ⟨w,ew,dw⟩:=(uV r).1 d e;exact ⟨_,a,ep,xs,w,⟨F,_,rfl,ea,r,hy,hk⟩,ew,q _ H (aY.rf H) dw⟩
  ·cases hf
 ·cases hf
def FA (neg:Bool) (K:Fg):R2:=fun y x H Q=>∃ k a ep xs,DK K H x y k a ep xs/\Q (.bl (if neg then !(uY xs k).isSome else (uY xs k).isSome)) H
def H0 (neg:Bool):Prm:=Prm.two (FA neg) (fun k d=>match d with
  | .dict kvs=>if hk6 k=true then some (.dat (.bool (if neg then !(getD kvs k).isSome else (getD kvs k).isSome))) else none
  | _=>none) fun K F H y x v u pr Q hf hy hx hd q=>by
 split at hf
 ·rename_i kvs;split at hf
  ·rename_i hk;cases hf;obtain ⟨a,rfl,ep,xs,ea,_,r⟩:=hx;have g:=uV (k:=y) r;refine ⟨_,a,ep,xs,⟨F,kvs,rfl,ea,r,hy,hk⟩,q _ H (aY.rf H) ?_⟩;have e:(uY xs y).isSome=(getD kvs y).isSome:=by
    cases z:getD kvs y with
    | none=>rw [g.2 z];rfl
    | some d=>obtain ⟨w,ew,_⟩:=g.1 d z;rw [ew];rfl
   rw [e];cases neg <;> rfl
  ·cases hf
 ·cases hf
section
variable {X:Cx} {a b o i e value:Expr} {pos pos':Pos} {ta tb td ty tv:TE}
theorem mV (hu:X.A.units+64 < cLine) (ho:JE X a ta) (hi:JE X b tb) (hs:GJ b):JE X (.Subscript a b pos) (tOp (fun x y=>eR.r X.K [x,y]) ta tb):=⟨by
 intro pins s σ H Q I h;refine yu PySem.F.slot_dict_getitem.lookup hs (thn (ho.h pins s σ H _ I h) fun u s1 ⟨x,H1,I1,rx,q1⟩=>thn (hi.h pins s1 σ H1 _ I1 q1) fun iv s2 ⟨y,H2,I2,ry,k,p,ep,xs,v,⟨F,kvs,ex,ea,r,hk,hk6'⟩,gv,q2⟩=>?_);subst ex;obtain rfl:u=Value.ref p:=rx;obtain ⟨as,rk⟩:=hk.reads I2 (m7 _ (kJ.mp hk6').1) ry
 exact ⟨(n4 I2 ea).1,A3 (by omega) I2 ea (zh I2 r) rk (xW hk hk6') gv fun t w' rw'=>⟨v,H2,I2.tok t,rw',q2⟩⟩⟩
theorem xV:JE X (.Dict [] [] pos) lN:=⟨wc⟩
theorem Bq {keys:List (Option Expr)} {values:List Expr} {trs:List (TE×TE)} (h:JP X pos keys values trs) (hall:keys.all (·.isSome)=true) (hl:keys.length=values.length) (h0:keys≠[]) (h15:keys.length<=15):JE X (.Dict keys values pos) (o4 trs):=⟨vN h.h hall hl h0 h15⟩
end
theorem xG {K:Fg} {F:Addr->Prop} {H:Hp}:∀ {ds:List (PyData×PyData)} {xs:List (PyData×V×V)},DmP K F H ds xs->xs.length=ds.length
 | [],xs,h=>by rw [show xs=[] from h];rfl
 | (k,d) :: ds,xs,h=>by obtain ⟨j,v,r,rfl,_,_,_,h2⟩:=h;rw [IH,IH,xG h2]
theorem F9 {K:Fg} {F:Addr->Prop} {H:Hp} {d:PyData} {v:V} (h:Vw K F H d v) (hk:hk6 d=true):Dm K F H d v:=by
 cases d with
 | list ds=>cases hk
 | dict ds=>cases hk
 | _=>exact h
def qA:xI where
 r:=fun K o y x H Q=>∃ k a ep xs,DK K H o y k a ep xs/\xs.length < sizeLine/\∀ ep',Q (upd H a (.dD ep' (pH xs k y x)))
 f:=fun d k x=>match d with
  | .dict kvs=>if hk6 k=true/\kvs.length < sizeLine then some (.dict (putD kvs k x)) else none
  | _=>none
 ok:=fun K F H d a k x vk vx d' Q hf ha ht hk hx q=>by
  split at hf
  ·split at hf
   ·rename_i kvs h;cases hf;obtain ⟨ep,xs,ea,z,r⟩:=ht;have hlen:xs.length < sizeLine:=by rw [xG r];exact h.2
    refine ⟨k,a,ep,xs,⟨F,kvs,rfl,ea,r,hk,h.1⟩,hlen,fun ep'=>q _ (fun b o n e=>by rw [aA n];exact e) ?_⟩;have p:Pr F H (upd H a (.dD ep' (pH xs k vk vx))):=fun b o e n=>by
     by_cases y:b=a
     ·subst y;rcases n with n | n
      ·exact absurd ha n
      ·rw [ea] at e;cases e;cases n
     ·rw [aA y];exact e
    exact ⟨_,_,aF,by have:=pR (xs:=xs) (k:=k) (j:=vk) (v:=vx);omega,(xN r h.1 (F9 hk h.1) hx).pr p fun _ z=>z⟩
   ·cases hf
  ·cases hf
def sH (K:Fg) (td ty tv:TE):TS:=fun D σ H=>tv σ H fun v H1=>td σ H1 fun x H2=>ty σ H2 fun y H3=>qA.r K x y v H3 (D.nx σ)
theorem vL {X:Cx} {o i value:Expr} {pos pos':Pos} {td ty tv:TE} (hu:X.A.units+64 < cLine) (ho:JE X o td) (hi:JE X i ty) (hv:JE X value tv) (hs:swapsWith value (some (.Subscript o i pos')) pos.line X.env=pure false) :
  JS X (.Assign [.Subscript o i pos'] value pos) (sH X.K td ty tv):=⟨by
 intro pins s σ H D I h;refine wpAny_Assign_Subscript (thn (hv.h pins s σ H _ I h) fun r s1 ⟨v,H1,I1,rv,q1⟩=>thn (ho.h pins s1 σ H1 _ I1 q1) fun u s2 ⟨x,H2,I2,rx,q2⟩=>thn (hi.h pins s2 σ H2 _ I2 q2) fun iv s3 ⟨y,H3,I3,ry,k,p,ep,xs,⟨F,kvs,ex,ea,r,hk,hk6'⟩,hl,q3⟩=>?_) hs;subst ex;obtain rfl:u=Value.ref p:=rx;obtain ⟨as,rk⟩:=hk.reads I3 (m7 _ (kJ.mp hk6').1) ry
 exact FC (by omega) I3 ea (zh I3 r) rk (xW hk hk6') ry rv hl fun ep' s4 I4=>⟨σ,_,I4,q3 ep'⟩⟩
theorem xx {K:Fg} {F:Addr->Prop} {H:Hp}:∀ {ns:List Int},DmL K F H (ns.map .int) (ns.map .int)
 | []=>rfl
 | n :: ns=>⟨_,_,rfl,rfl,xx⟩
theorem Ba {f:Fn} {K:Fg} {H:Hp} {a:Addr} {ns:List Int} (hm:f.ms=[.dat]) (hl:ns.length<=63) (hS:SqL K H a (ns.map V.int)) (hF:f.F [.list (ns.map .int)]=some (.dat (.bool true),[])):fi f K [.ref a] H (fun v _=>v=.bl true) fun _ _ _=>False:=by
 refine ⟨fun _=>False,[.list (ns.map .int)],[],.dat (.bool true),[],hF,?_,fun _ h=>absurd h id,fun v' H' _ r=>r.1⟩;rw [hm];refine ⟨⟨a,ns.map .int,rfl,?_,?_,xx⟩,rfl⟩
 ·rcases hS with hS | hS
  ·exact .inl ⟨id,hS⟩
  ·exact .inr hS
 ·rw [Ig];exact IY hl (by decide)
end L2
end
section
namespace L2
open PySem PySem.Spec PyProof.Rows
section
variable {X:Cx} {pos:Pos} {s:Stmt}
theorem Ap:JS X s qZ:=⟨fun _ _ _ _ _ _ h=>absurd h id⟩
end
end L2
namespace L2
open PySem PySem.Spec PyProof.Rows
end L2
end
section
namespace L2
open PySem PySem.Spec PyProof.Rows
def Ex (d:PyData):Bool:=noD d&&decide (d.depth<=32)
def Ei (ds:List PyData) (x:PyData):Bool:=ds.any fun d=>PyData.eqv d x
def ngB (neg b:Bool):Bool:=if neg then !b else b
def G8 (neg:Bool) (K:Fg):R2:=rOr (fun x y H Q=>∃ i j,x=.str i/\y=.str j/\Q (.bl (ngB neg (!(Builtin.Str.occurrences j i 0 j.length 1).isEmpty))) H)
 fun x y H Q=>∃ (p:Addr) (xs:List V) (F:Addr->Prop) (d:PyData) (ds:List PyData),y=.ref p/\(SqL K H p xs\/SqT K H p xs)/\Vw K F H d x/\DmL K F H ds xs/\Ex d=true/\j0 ds=true/\Q (.bl (ngB neg (Ei ds d))) H
def inD (neg:Bool):PyData->PyData->Option PR
 | .str i,.str j=>some (.dat (.bool (ngB neg (!(Builtin.Str.occurrences j i 0 j.length 1).isEmpty))))
 | x,.list ds=>if Ex x=true/\j0 ds=true then some (.dat (.bool (ngB neg (Ei ds x)))) else none
 | x,.tuple ds=>if Ex x=true/\j0 ds=true then some (.dat (.bool (ngB neg (Ei ds x)))) else none
 | _,_=>none
def Hn (neg:Bool):Prm:=Prm.two (G8 neg) (inD neg) fun K F H x y u v pr Q hf hx hy hd q=>by
 unfold inD at hf;split at hf
 ·cases hf;exact .inl ⟨_,_,(vStr hx).1,(vStr hy).1,q _ H (aY.rf H) rfl⟩
 ·split at hf
  ·rename_i h;cases hf;obtain ⟨a,us,rfl,s1,z1,d1⟩:=pP hy;exact .inr ⟨a,us,F,_,_,rfl,.inl s1,hx,d1,h.1,h.2,q _ H (aY.rf H) rfl⟩
  ·cases hf
 ·split at hf
  ·rename_i h;cases hf;obtain ⟨a,us,rfl,s1,z1,d1⟩:=qW hy;exact .inr ⟨a,us,F,_,_,rfl,.inr s1,hx,d1,h.1,h.2,q _ H (aY.rf H) rfl⟩
  ·cases hf
 ·cases hf
abbrev inP:Prm:=Hn false
open Classical in
section
variable {X:Cx} {pins:List (Addr×Obj)} {σ:St} {s:Shared} {H:Hp} {F:Addr->Prop}
end
end L2
end
section
namespace L2
open PySem PySem.Spec PyProof.Rows
def Ez (ww:World):Bool:=ww.params.followText "set-order"
structure Hy (ww:World) (tb:SetTable) (n:Nat):Prop where
 fit:tb.fits n=true
 led:tb.led=!Ez ww
 pln:n≠0->tb.plain=false
def EN (pr:Program) (ww:World) (h:Heap) (a:Addr) (ss:List Str):Prop :=
 ∃ ob es ep tb,h.get? a=some ob/\ob.ExactSet/\ob.data=.set es ep tb/\ElemsOf (strKind pr ww) es.toList/\(∃ zs,StrsAre (es.toList.map (·.2)) zs/\zs.Perm ss)/\es.size < scanBound/\Hy ww tb es.size
section
variable {pr:Program} {ww:World} {AA:Around} {EE:Value->Shared->Prop} {st:Shared}
end
end L2
end
section
namespace L2
open PySem PySem.Spec PyProof.Rows
section
variable {pr:Program} {ww:World} {AA:Around} {RR:Result->Shared->Prop} {IT:Addr} {fp wr:List Addr} {GG:Array GenState->Array GenState->Prop} {n:Nat} {PP:Nat->Value->Prop} {SS:Nat->Shared->Prop}
end
section
variable {pr:Program} {ww:World} {AA:Around} {EE:Value->Shared->Prop} {st:Shared}
end
end L2
end
section
namespace L2
open PySem PySem.Spec PyProof.Rows
namespace SF
end SF
section
variable {pr:Program} {ww:World} {AA:Around} {EE:Value->Shared->Prop} {st:Shared}
end
end L2
end
section
namespace L2
open PySem PySem.Spec PyProof.Rows
namespace SF
end SF
section
variable {pr:Program} {ww:World} {AA:Around} {EE:Value->Shared->Prop} {st:Shared}
end
end L2
end
section
namespace L2
open PySem PySem.Spec PyProof.Rows
section
variable {pr:Program} {ww:World} {AA:Around} {EE:Value->Shared->Prop} {st:Shared}
end
end L2
end
section
namespace L2
open PySem PySem.Spec PyProof.Rows
def Hx (X:Cx) (p:Addr) (ss:List Str):HO:=.ext fun h=>EN X.prog X.w h p ss
end L2
end
section
namespace L2
open PySem PySem.Spec PyProof.Rows
section
variable {X:Cx} {pins:List (Addr×Obj)} {σ:St} {H:Hp} {s:Shared}
end
end L2
end
section
namespace L2
open PySem PySem.Spec PyProof.Rows
end L2
end
section
namespace L2
open PySem PySem.Spec PyProof.Rows
section
variable {pr:Program} {ww:World} {AA:Around} {EE:Value->Shared->Prop} {st:Shared}
end
section
variable {X:Cx} {o e:Expr} {apos cpos:Pos} {te:TE} {a:Addr} {l:List (Str×Cst)}
end
def yC:Prm where
 r:=fun _ vs H Q=>match vs with | []=>∀ p,H p=none->Q (.ref p) (upd H p (.dD 0 [])) | _=>False
 f:=fun ds=>match ds with | []=>some (.frs (.dict [])) | _=>none
 ok:=fun K F H ds vs pr Q hf hv hd q=>by
  match ds,hf with
  | [],hf =>
   cases hf;rw [show vs=[] from hv];exact fun p hp=>q _ _ (aY.nw _ hp) ⟨p,rfl,hp,0,[],aF,Jw _,rfl⟩
end L2
end
section
namespace L2
open PySem PySem.Spec PyProof.Rows
theorem x6 {X:Cx} {e:Expr} {te:TE} {T:String} {p p2 pos:Pos} (hg:Gl X "isinstance") (hm:X.mg "isinstance" = none) (ha:JE X e te) (hs:PySem.W.isStarred e=false) (hb:JE X (.Name (Str.ofString T) p2) (tC (.ty T))):JE X (.Call (.Name "isinstance" p) [e,.Name (Str.ofString T) p2] [] pos) (tCB ((nq T).r X.K) (ae te aq)) :=
 ⟨(eB yf hg hm (by decide +kernel) (eA ha (eA hb aB rfl) hs) hs rfl (by decide) rfl).h⟩
end L2
end
section
namespace HT
open PySem PySem.Spec PyProof.Rows
section
variable {prog:Program} {w:World} {A:Around} {E:Value->Shared->Prop} {s:Shared}
end
end HT
namespace L2
open PySem PySem.Spec PyProof.Rows
end L2
end
section
namespace L2
open PySem PySem.Spec PyProof.Rows
end L2
end
section
namespace L2
open PySem
structure Kn where
 nx:En->Prop
 rt:RV->En->Prop
 bk:En->Prop
 ct:En->Prop
def Kn.at (E:Kn):Out->Prop | .nx e=>E.nx e | .rt r e=>E.rt r e | .bk e=>E.bk e | .ct e=>E.ct e
def WS (gd:List PyData) (s:XS) (env:En) (E:Kn):Prop:=∃ o,dS gd s env=some o/\E.at o
def WE (gd:List PyData) (e:XE) (env:En) (Q:RV->En->Prop):Prop:=∃ r e',dE gd e env=some (r,e')/\Q r e'
def WA (gd:List PyData) (e:XA) (env:En) (Q:List AV->En->Prop):Prop:=∃ r e',dA gd e env=some (r,e')/\Q r e'
def WT (gd:List PyData) (e:XT) (env:En) (Q:Bool->En->Prop):Prop:=∃ r e',dT gd e env=some (r,e')/\Q r e'
def WI (gd:List PyData) (e:XI) (env:En) (Q:List PyData->Option Nat->En->Prop):Prop:=∃ ds lk e',dI gd e env=some (ds,lk,e')/\Q ds lk e'
def WF (f:Fn) (ds:List PyData) (Q:PR->List PyData->Prop):Prop:=∃ pr outs,f.F ds=some (pr,outs)/\Q pr outs
def WPr (p:Prm) (avs:List AV) (e:En) (Q:RV->En->Prop):Prop:=∃ ds pr,cn e avs=some ds/\p.f ds=some pr/\Q pr.rv e
def AW (i:Nat) (r:RV) (e:En) (N:En->Prop):Prop:=∃ d,r.av=.dat d/\free e i=true/\N (e.set i (.dat d))
def rD (i:Nat) (r:RV) (e:En) (N:En->Prop):Prop:=∃ d,r=.frs d/\free e i=true/\N (e.set i (.own d))
def FH (b:PyData->En->Option Out) (ds:List PyData) (lk:Option Nat) (e1:En) (E:Kn):Prop:=∃ o,forL b ds (cc e1 lk)=some o/\E.at (o.map (lkd e1 lk) (aK e1 lk))
def qM (f:Fn) (avs:List AV) (e:En) (Q:RV->En->Prop):Prop:=∃ rv e',v5 f avs e=some (rv,e')/\Q rv e'
def Du (ms:List PM) (QF:PR->List PyData->Prop) (r:RV) (e:En):Prop:=∃ pr outs,r.pr=some pr/\jw ms e=some outs/\QF pr outs
def vP (ms:List PM) (QF:PR->List PyData->Prop) (e:En):Prop:=∃ outs,jw ms e=some outs/\QF (.dat .none) outs
def A9 (m:xI) (i:Nat) (v:PyData) (rk:RV) (e2:En) (N:En->Prop):Prop:=∃ dk d d',rk.view e2=some dk/\bp e2 i=some d/\m.f d dk v=some d'/\N (iR e2 i d')
def DB (gd:List PyData) (m:xI) (i:Nat) (a:XE) (r:RV) (e:En) (N:En->Prop):Prop:=∃ v,r.av=.dat v/\(bp e i).isSome=true/\WE gd a e fun rk e2=>A9 m i v rk e2 N
def Ds (m:Mtd) (r:RV) (avs:List AV) (e2:En) (Q:RV->En->Prop):Prop:=∃ d ds pr,r.view e2=some d/\cn e2 avs=some ds/\m.f d ds=some pr/\Q pr.rv e2
def DF (gd:List PyData) (m:Mtd) (as:XA) (r:RV) (e:En) (Q:RV->En->Prop):Prop:=∃ d0,r.view e=some d0/\m.ty d0=true/\WA gd as e fun avs e2=>Ds m r avs e2 Q
def WMr (m:Mtr) (i:Nat) (avs:List AV) (e2:En) (Q:RV->En->Prop):Prop:=∃ d ds d' x,bp e2 i=some d/\gN e2 avs=some ds/\m.f d ds=some (d',x)/\Q (.dat x) (iR e2 i d')
def WTp (mk:List PyData->RV) (avs:List AV) (e:En) (Q:RV->En->Prop):Prop:=∃ ds,m4 avs=some ds/\ds.length<=sizeLine/\Q (mk ds) e
def DE (is:List Nat) (r:RV) (e:En) (N:En->Prop):Prop:=∃ ds e2,r.av=.dat (.tuple ds)/\gu e is ds=some e2/\N e2
section
variable {gd:List PyData} {env e1:En} {E:Kn} {Q:RV->En->Prop} {QA:List AV->En->Prop} {QT:Bool->En->Prop} {QI:List PyData->Option Nat->En->Prop} {i:Nat} {d:PyData} {a b c:XE} {as:XA} {s t:XS} {p:Prm} {f:Fn} {x y:XT}
theorem gJ {ms:List PM} {n:Nat} {ds:List PyData} {QF:PR->List PyData->Prop} (hl:ds.length=ms.length) (h:WS gd s (ax ms ds n) ⟨vP ms QF,Du ms QF,fun _=>False,fun _=>False⟩):WF (ix gd ms n s) ds QF:=by
 obtain ⟨o,ho,q⟩:=h;unfold WF ix;simp only;rw [Ip hl,ho];cases o with
 | nx e=>obtain ⟨outs,h1,h2⟩:=q;simp only [h1];exact ⟨_,_,rfl,h2⟩
 | rt r e=>obtain ⟨pr,outs,h1,h2,h3⟩:=q;simp only [h1,h2];exact ⟨_,_,rfl,h3⟩
 | bk e=>exact absurd q id
 | ct e=>exact absurd q id
theorem AK (h:WS gd s env { E with nx:=fun e=>WS gd t e E }):WS gd (.seq s t) env E:=by
 obtain ⟨o,ho,q⟩:=h;unfold WS;simp only [dS,ho];cases o with
 | nx e=>exact q
 | rt r e=>exact ⟨_,rfl,q⟩
 | bk e=>exact ⟨_,rfl,q⟩
 | ct e=>exact ⟨_,rfl,q⟩
theorem Bj (h:∀ N:En->Prop,N=(fun e=>WS gd t e E)->WS gd s env { E with nx:=N }):WS gd (.seq s t) env E:=AK (h _ rfl)
theorem rZ {e:En} {x y:AV} {i:Int} {xs:List PyData} (h1:cn e [x,y]=some [.list xs,.int i]) (h:atI xs i=some d) (q:Q (.dat d) e):WPr ixP [x,y] e Q:=⟨_,.dat d,h1,by show (atI xs i).map PR.dat=_;rw [h];rfl,q⟩
theorem yp {e:En} {x y:AV} {i:Int} {z:Str} {c:Nat} (h1:cn e [x,y]=some [.str z,.int i]) (h:atI z.cps.toList i=some c) (q:Q (.dat (.str ⟨#[c]⟩)) e):WPr ixP [x,y] e Q:=⟨_,.dat (.str ⟨#[c]⟩),h1,by show (atI z.cps.toList i).map _=_;rw [h];rfl,q⟩
theorem Bf (h:E.nx env):WS gd .skip env E:=⟨_,rfl,h⟩
theorem DY (h:E.bk env):WS gd .brk env E:=⟨_,rfl,h⟩
theorem Ed (h:E.ct env):WS gd .cnt env E:=⟨_,rfl,h⟩
theorem Cf (h:E.rt (.dat .none) env):WS gd .Dx env E:=⟨_,rfl,h⟩
theorem AD (h:WE gd a env fun r e=>AW i r e E.nx):WS gd (.fq i a) env E:=by
 obtain ⟨r,e',h1,d,h2,h3,h4⟩:=h;unfold WS;simp only [dS,h1,h2];rw [Ip h3];exact ⟨_,rfl,h4⟩
theorem Bg (h:WE gd a env fun r e=>rD i r e E.nx):WS gd (.x8 i a) env E:=by
 obtain ⟨r,e',h1,d,rfl,h3,h4⟩:=h;unfold WS;simp only [dS,h1];rw [Ip h3];exact ⟨_,rfl,h4⟩
theorem Aj {is:List Nat} (h:WE gd a env fun r e=>DE is r e E.nx):WS gd (.Df is a) env E:=by
 obtain ⟨r,e',h1,ds,e2,h2,h3,h4⟩:=h;unfold WS;simp only [dS,h1,h2,h3];exact ⟨_,rfl,h4⟩
theorem Cq (h:WE gd a env fun _ e=>E.nx e):WS gd (.drop a) env E:=by
 obtain ⟨r,e',h1,h2⟩:=h;unfold WS;simp only [dS,h1];exact ⟨_,rfl,h2⟩
theorem D6 (h:WE gd a env E.rt):WS gd (.ret a) env E:=by
 obtain ⟨r,e',h1,h2⟩:=h;unfold WS;simp only [dS,h1];exact ⟨_,rfl,h2⟩
theorem Gn (h:WT gd x env fun b e=>if b=true then WS gd s e E else WS gd t e E):WS gd (.ifs x s t) env E:=by
 obtain ⟨b,e',h1,h2⟩:=h;unfold WS;simp only [dS,h1];cases b with
 | true=>exact h2
 | false=>exact h2
theorem Hu {it:XI} (h:WI gd it env fun ds lk e=>FH (j8 i (dS gd s)) ds lk e E):WS gd (.fr i it s) env E:=by
 obtain ⟨ds,lk,e',h1,o,h2,h3⟩:=h;unfold WS;simp only [dS,h1,h2];exact ⟨_,rfl,h3⟩
theorem DR {is:List Nat} {it:XI} (h:WI gd it env fun ds lk e=>FH (jr is (dS gd s)) ds lk e E):WS gd (.frT is it s) env E:=by
 obtain ⟨ds,lk,e',h1,o,h2,h3⟩:=h;unfold WS;simp only [dS,h1,h2];exact ⟨_,rfl,h3⟩
theorem Ep {m:xI} (h:WE gd b env fun r e=>DB gd m i a r e E.nx):WS gd (.sto m i a b) env E:=by
 obtain ⟨r,e',h1,v,h2,h3,rk,e2,h4,dk,d,d',h5,h6,h7,h8⟩:=h;obtain ⟨d0,hd0⟩:=Option.isSome_iff_exists.mp h3;unfold WS;simp only [dS,h1,h2,hd0,h4,h5,h6,h7];exact ⟨_,rfl,h8⟩
theorem Hm {n:Nat} (Inv:Nat->En->Prop) (m:Nat) (hm:m < n) (h0:Inv m env) (hs:∀ k e,k<=m->Inv k e->WT gd x e fun b e1=>if b=true then WS gd s e1 ⟨fun e2=>∃ j,j < k/\Inv j e2,E.rt,E.nx,fun e2=>∃ j,j < k/\Inv j e2⟩ else E.nx e1):WS gd (.wh n x s) env E:=by
 unfold WS;simp only [dS];induction n generalizing m env with
 | zero=>omega
 | succ n ih =>
  unfold whL;obtain ⟨b,e1,h1,h2⟩:=hs m env (Iv _) h0;rw [h1];cases b with
  | false=>exact ⟨_,rfl,h2⟩
  | true =>
   rw [Ip rfl] at h2;obtain ⟨o,h3,h4⟩:=h2;simp only [h3];have step:∀ e2,(∃ j,j < m/\Inv j e2)->∃ o,whL (dT gd x) (dS gd s) n e2=some o/\E.at o:=fun e2 ⟨j,hj,hi⟩=>ih j (by omega) hi fun k e hk=>hs k e (by omega);cases o with
   | nx e=>exact step e h4
   | ct e=>exact step e h4
   | bk e=>exact ⟨_,rfl,h4⟩
   | rt r e=>exact ⟨_,rfl,h4⟩
theorem w_var (h:env[i]?=some (.dat d)) (q:Q (.dat d) env):WE gd (.var i) env Q:=⟨_,_,by simp only [dE,h],q⟩
theorem Bk (h:env[i]?=some (.own d)) (q:Q (.bor i) env):WE gd (.var i) env Q:=⟨_,_,by simp only [dE,h],q⟩
theorem BW (h:env[i]?=some (.ino d)) (q:Q (.bor i) env):WE gd (.var i) env Q:=⟨_,_,by simp only [dE,h],q⟩
theorem AU (h:env[i]?=some (.ro d)) (q:Q (.bor i) env):WE gd (.var i) env Q:=⟨_,_,by simp only [dE,h],q⟩
theorem EG (h:env[i]?=some (.own d)) (q:Q (.dat d) (env.set i (.dat d))):WE gd (.mov i) env Q:=⟨_,_,by simp only [dE,h],q⟩
theorem Fo (h:env[i]?=some (.own d)) (q:Q (.frs d) (env.set i .un)):WE gd (.tke i) env Q:=⟨_,_,by simp only [dE,h],q⟩
theorem DN {c:Cst} (q:Q (.dat c.d) env):WE gd (.cst c) env Q:=⟨_,_,rfl,q⟩
theorem D8 {g:Nat} (h:gd[g]?=some d) (q:Q (.dat d) env):WE gd (.glb g) env Q:=⟨_,_,by simp only [dE,h],q⟩
theorem Fd (h:WA gd as env fun avs e=>WPr p avs e Q):WE gd (.prm p as) env Q:=by
 obtain ⟨avs,e',h1,ds,pr,h2,h3,h4⟩:=h;exact ⟨_,_,by simp only [dE,h1,h2,h3],h4⟩
theorem Ci (h:WA gd as env fun avs e=>qM f avs e Q):WE gd (.call f as) env Q:=by
 obtain ⟨avs,e',h1,rv,e2,h2,h3⟩:=h;exact ⟨_,_,by simp only [dE,h1];exact h2,h3⟩
theorem aw {avs:List AV} {ds:List PyData} {is:List Nat} (h1:j3 e1 f.ms avs=some ds) (h2:dq f.ms avs=is) (h:WF f ds fun pr outs=>ckA is (uO f.ms avs) outs.length=true/\Q pr.rv (dU e1 is outs)):qM f avs e1 Q:=by
 obtain ⟨pr,outs,h3,h4,h5⟩:=h;subst h2;unfold qM v5;simp only [h1,h3];rw [Ip h4];exact ⟨_,_,rfl,h5⟩
theorem E7 {m:Mtd} {o:XE} (h:WE gd o env fun r e=>DF gd m as r e Q):WE gd (.met m o as) env Q:=by
 obtain ⟨r,e',h1,d0,h2,h3,avs,e2,h4,d,ds,pr,h5,h6,h7,h8⟩:=h;exact ⟨_,_,by simp only [dE,h1,h2];rw [Ip h3];simp only [h4,h5,h6,h7],h8⟩
theorem FV {m:Mtr} (h0:bp env i=some d) (h1:m.ty d=true) (h:WA gd as env fun avs e2=>WMr m i avs e2 Q):WE gd (.mtr m i as) env Q:=by
 obtain ⟨avs,e2,h4,d,ds,d',x,h5,h6,h7,h8⟩:=h;exact ⟨_,_,by simp only [dE,h0];rw [Ip h1];simp only [h4,h5,h6,h7],h8⟩
theorem CY (h:WA gd as env fun avs e=>WTp (fun ds=>.dat (.tuple ds)) avs e Q):WE gd (.tup as) env Q:=by
 obtain ⟨avs,e2,h4,ds,h5,h6,h7⟩:=h;exact ⟨_,_,by simp only [dE,h4,h5];rw [Ip h6],h7⟩
theorem BH (h:WA gd as env fun avs e=>WTp (fun ds=>.frs (.list ds)) avs e Q):WE gd (.lst as) env Q:=by
 obtain ⟨avs,e2,h4,ds,h5,h6,h7⟩:=h;exact ⟨_,_,by simp only [dE,h4,h5];rw [Ip h6],h7⟩
theorem El (h:WT gd x env fun k e=>if k=true then WE gd a e Q else WE gd b e Q):WE gd (.ifx x a b) env Q:=by
 obtain ⟨k,e',h1,h2⟩:=h;unfold WE;simp only [dE,h1];cases k with
 | true=>exact h2
 | false=>exact h2
theorem AI (h:WE gd a env fun r e=>∃ k,r=.dat (.bool k)/\if k=true then WE gd b e Q else Q (.dat (.bool false)) e):WE gd (.ug a b) env Q:=by
 obtain ⟨r,e',h1,k,rfl,h2⟩:=h;unfold WE;cases k with
 | true=>simp only [dE,h1];exact h2
 | false=>simp only [dE,h1];exact ⟨_,_,rfl,h2⟩
theorem Gf (h:WE gd a env fun r e=>∃ k,r=.dat (.bool k)/\if k=true then Q (.dat (.bool true)) e else WE gd b e Q):WE gd (.orv a b) env Q:=by
 obtain ⟨r,e',h1,k,rfl,h2⟩:=h;unfold WE;cases k with
 | true=>simp only [dE,h1];exact ⟨_,_,rfl,h2⟩
 | false=>simp only [dE,h1];exact h2
theorem Bz (h:WE gd a env fun r e=>∃ k,r=.dat (.bool k)/\Q (.dat (.bool (!k))) e):WE gd (.zV a) env Q:=by
 obtain ⟨r,e',h1,k,rfl,h2⟩:=h;exact ⟨_,_,by simp only [dE,h1],h2⟩
theorem Gb {p':Prm} (h:WE gd a env fun r e=>WE gd b e fun r2 e2=>∃ x y k,r.av=.dat x/\r2.av=.dat y/\p.f [x,y]=some (.dat (.bool k))/\if k=true then WE gd c e2 fun r3 e3=>∃ z pr,r3.av=.dat z/\p'.f [y,z]=some pr/\Q pr.rv e3 else Q (.dat (.bool false)) e2):WE gd (.chn p p' a b c) env Q:=by
 obtain ⟨r,e',h1,r2,e2,h2,x,y,k,h3,h4,h5,h6⟩:=h;unfold WE;cases k with
 | true =>
  rw [Ip rfl] at h6;obtain ⟨r3,e3,h7,z,pr,h8,h9,h10⟩:=h6;simp only [dE,h1,h2,h3,h4,h5,h7,h8,h9];exact ⟨_,_,rfl,h10⟩
 | false =>
  rw [Im (by decide)] at h6;simp only [dE,h1,h2,h3,h4,h5];exact ⟨_,_,rfl,h6⟩
theorem FE {g:Int->Int->Prm} (h:WE gd a env fun r e=>WE gd b e fun r2 e2=>∃ i,r2=.dat (.int i)/\WE gd c e2 fun r3 e3=>∃ j,r3=.dat (.int j)/\∃ d pr,r.view e3=some d/\(g i j).f [d]=some pr/\Q pr.rv e3):WE gd (.sl2 g a b c) env Q:=by
 obtain ⟨r,e',h1,r2,e2,h2,i,rfl,r3,e3,h3,j,rfl,d,pr,h4,h5,h6⟩:=h;exact ⟨_,_,by simp only [dE,h1,h2,h3,h4,h5],h6⟩
def Fz (st:PyData->En->Option (Option PyData×En)) (js:List Nat) (ds:List PyData) (lk:Option Nat) (e1:En) (Q:RV->En->Prop):Prop :=
 ∃ ys ec,vc st ds (ft e1 lk js)=some (ys,ec)/\Q (.frs (.list ys)) (bh e1 js ec)
theorem FT {js:List Nat} {it:XI} (hn:zD js=true) (h:WI gd it env fun ds lk e1=>Fz (jU (dT gd x) (dE gd a)) js ds lk e1 Q):WE gd (.cmp js it x a) env Q:=by
 obtain ⟨ds,lk,e1,h1,ys,ec,h2,h3⟩:=h;refine ⟨_,_,?_,h3⟩;simp only [dE,h1];rw [Ip (iK hn),h2]
theorem BU {n:List Str} {js:List Nat} {it:XI} (hn:zD js=true) (h:WI gd it env fun ds lk e1=>Fz (lz n.length (dE gd a)) js ds lk e1 Q):WE gd (.AY n js it a) env Q:=by
 obtain ⟨ds,lk,e1,h1,ys,ec,h2,h3⟩:=h;refine ⟨_,_,?_,h3⟩;simp only [dE,h1];rw [Ip (iK hn),h2]
def yw (st:PyData->En->Option (Option PyData×En)) (d:PyData) (ec:En) (Q:Option PyData->En->Prop):Prop:=∃ y e,st d ec=some (y,e)/\Q y e
theorem je {QS:Option PyData->En->Prop} {ec:En} (h:WT gd x (.dat d :: ec) fun k e2=>if k=true then WE gd a e2 fun r e3=>∃ y,r.av=.dat y/\QS (some y) e3.tail else QS none e2.tail):yw (jU (dT gd x) (dE gd a)) d ec QS:=by
 obtain ⟨k,e2,h1,h2⟩:=h;unfold yw jU;rw [h1];cases k with
 | true =>
  rw [Ip rfl] at h2;obtain ⟨r,e3,h3,y,h4,h5⟩:=h2;simp only [h3,h4];exact ⟨_,_,rfl,h5⟩
 | false =>
  rw [Im (by decide)] at h2;exact ⟨_,_,rfl,h2⟩
theorem fJ {st:PyData->En->Option (Option PyData×En)} {js:List Nat} {ds:List PyData} {lk:Option Nat} (Inv:Nat->List PyData->En->Prop) (h0:Inv 0 [] (ft e1 lk js))
  (hs:∀ i d ys ec,ds[i]?=some d->Inv i ys ec->yw st d ec fun y e=>Inv (i+1) (ys++y.toList) e)
  (hq:∀ ys ec,Inv ds.length ys ec->Q (.frs (.list ys)) (bh e1 js ec)):Fz st js ds lk e1 Q:=by
 have key:∀ (rest:List PyData) (i:Nat) (ys:List PyData) (ec:En),ds.drop i=rest->i<=ds.length->Inv i ys ec->∃ zs ec',vc st rest ec=some (zs,ec')/\Inv ds.length (ys++zs) ec':=by
  intro rest;induction rest with
  | nil =>
   intro i ys ec hd hi hI;have:ds.length<=i:=List.drop_eq_nil_iff.mp hd;have:i=ds.length:=by omega
   subst this;exact ⟨[],ec,rfl,by rw [Jd];exact hI⟩
  | cons d rest ih =>
   intro i ys ec hd hi hI;have hlt:i < ds.length:=by
    apply Ki;intro h;rw [List.drop_eq_nil_iff.mpr (by omega)] at hd;cases hd
   rw [Jz hlt] at hd;injection hd with hd1 hd2;obtain ⟨y,e,h1,h2⟩:=hs i d ys ec (by rw [Ia hlt,hd1]) hI;obtain ⟨zs,ec',h3,h4⟩:=ih (i+1) _ e hd2 hlt h2;refine ⟨y.toList++zs,ec',?_,by rw [<- IK];exact h4⟩;unfold vc;simp only [h1,h3]
 obtain ⟨zs,ec,h1,h2⟩:=key ds 0 [] _ rfl (Jw _) h0;exact ⟨zs,ec,h1,hq zs ec h2⟩
def WB (b:PyData->En->Option Out) (d:PyData) (e:En) (E:Kn):Prop:=∃ o,b d e=some o/\E.at o
theorem F3 {e:En} (hf:free e i=true) (h:WS gd s (e.set i (.dat d)) E):WB (j8 i (dS gd s)) d e E:=by
 obtain ⟨o,h1,h2⟩:=h;exact ⟨o,by unfold j8;rw [Ip hf];exact h1,h2⟩
theorem Ay {e e2:En} {is:List Nat} {xs:List PyData} (hf:gu e is xs=some e2) (h:WS gd s e2 E):WB (jr is (dS gd s)) (.tuple xs) e E:=by
 obtain ⟨o,h1,h2⟩:=h;exact ⟨o,by unfold jr;simp only [hf];exact h1,h2⟩
theorem nE {b:PyData->En->Option Out} {ds:List PyData} {lk:Option Nat} (Inv:Nat->En->Prop) (h0:Inv 0 (cc e1 lk))
  (hs:∀ i d e,ds[i]?=some d->Inv i e->WB b d e ⟨Inv (i+1),fun r e=>E.rt (r.soft (lkd e1 lk)) (aK e1 lk e),fun e=>E.nx (aK e1 lk e),Inv (i+1)⟩)
  (hq:∀ e,Inv ds.length e->E.nx (aK e1 lk e)):FH b ds lk e1 E:=by
 have key:∀ (rest:List PyData) (i:Nat) (e:En),ds.drop i=rest->i<=ds.length->Inv i e->∃ o,forL b rest e=some o/\E.at (o.map (lkd e1 lk) (aK e1 lk)):=by
  intro rest;induction rest with
  | nil =>
   intro i e hd hi hI;have:ds.length<=i:=List.drop_eq_nil_iff.mp hd;have:i=ds.length:=by omega
   subst this;exact ⟨_,rfl,hq e hI⟩
  | cons d rest ih =>
   intro i e hd hi hI;have hlt:i < ds.length:=by
    apply Ki;intro h;rw [List.drop_eq_nil_iff.mpr (by omega)] at hd;cases hd
   rw [Jz hlt] at hd;injection hd with hd1 hd2;obtain ⟨o,h1,h2⟩:=hs i d e (by rw [Ia hlt,hd1]) hI;unfold forL;simp only [h1];cases o with
   | nx e'=>exact ih (i+1) e' hd2 hlt h2
   | ct e'=>exact ih (i+1) e' hd2 hlt h2
   | bk e'=>exact ⟨_,rfl,h2⟩
   | rt r e'=>exact ⟨_,rfl,h2⟩
 exact key ds 0 _ rfl (Jw _) h0
theorem DQ (q:QA [] env):WA gd .nil env QA:=⟨_,_,rfl,q⟩
theorem z5 (h:WE gd a env fun r e=>WA gd as e fun avs e2=>QA (r.av :: avs) e2):WA gd (.cons a as) env QA:=by
 obtain ⟨r,e',h1,avs,e2,h2,h3⟩:=h;exact ⟨_,_,by simp only [dA,h1,h2],h3⟩
theorem DS (h:WE gd a env fun r e=>∃ k,r=.dat (.bool k)/\QT k e):WT gd (.tst a) env QT:=by
 obtain ⟨r,e',h1,k,rfl,h2⟩:=h;exact ⟨_,_,by simp only [dT,h1],h2⟩
theorem Gk (h:WE gd a env fun r e=>∃ d,r.view e=some d/\FP d=false/\QT (D9 d) e):WT gd (.tru a) env QT:=by
 obtain ⟨r,e',h1,d,h2,h4,h3⟩:=h;exact ⟨_,e',by simp only [dT,h1,h2,h4];rfl,h3⟩
theorem w_and (h:WT gd x env fun k e=>if k=true then WT gd y e QT else QT false e):WT gd (.and x y) env QT:=by
 obtain ⟨k,e',h1,h2⟩:=h;unfold WT;cases k with
 | true=>simp only [dT,h1];exact h2
 | false=>simp only [dT,h1];exact ⟨_,_,rfl,h2⟩
theorem w_or (h:WT gd x env fun k e=>if k=true then QT true e else WT gd y e QT):WT gd (.or x y) env QT:=by
 obtain ⟨k,e',h1,h2⟩:=h;unfold WT;cases k with
 | true=>simp only [dT,h1];exact ⟨_,_,rfl,h2⟩
 | false=>simp only [dT,h1];exact h2
theorem w_not (h:WT gd x env fun k e=>QT (!k) e):WT gd (.not x) env QT:=by
 obtain ⟨k,e',h1,h2⟩:=h;exact ⟨_,_,by simp only [dT,h1],h2⟩
theorem EH (h:QT true env):WT gd .yes env QT:=⟨_,_,rfl,h⟩
def C4 (r:RV) (e:En) (QI:List PyData->Option Nat->En->Prop):Prop:=(∃ ds,r.av=.dat (.list ds)/\QI ds none e)\/∃ i ds,r.av=.bor i/\cont e i=some (.list ds)/\QI ds (some i) e
theorem HB (h:WE gd a env fun r e=>C4 r e QI):WI gd (.lst a) env QI:=by
 obtain ⟨r,e',h1,⟨ds,h2,h3⟩ | ⟨i,ds,h2,h3,h4⟩⟩:=h
 ·exact ⟨_,_,_,by simp only [dI,h1,h2],h3⟩
 ·exact ⟨_,_,_,by simp only [dI,h1,h2,h3],h4⟩
theorem yY {r:RV} {e:En} {ds:List PyData} (h:r.av=.dat (.list ds)) (q:QI ds none e):C4 r e QI:=.inl ⟨ds,h,q⟩
theorem HX (h:WE gd a env fun r e=>∃ ds,r.av=.dat (.tuple ds)/\QI ds none e):WI gd (.tup a) env QI:=by
 obtain ⟨r,e',h1,ds,h2,h3⟩:=h;exact ⟨_,_,_,by simp only [dI,h1,h2],h3⟩
def WSq (r:RV) (e:En) (QI:List PyData->Option Nat->En->Prop):Prop:=C4 r e QI\/∃ ds,r.av=.dat (.tuple ds)/\QI ds none e
theorem Hb (h:WE gd a env fun r e=>WSq r e QI):WI gd (.sq a) env QI:=by
 obtain ⟨r,e',h1,(⟨ds,h2,h3⟩ | ⟨i,ds,h2,h3,h4⟩) | ⟨ds,h2,h3⟩⟩:=h
 ·exact ⟨_,_,_,by simp only [dI,h1,h2],h3⟩
 ·exact ⟨_,_,_,by simp only [dI,h1,h2,h3],h4⟩
 ·exact ⟨_,_,_,by simp only [dI,h1,h2],h3⟩
theorem HF (h:WE gd a env fun r e=>∃ z,r.av=.dat (.str z)/\QI (z.cps.toList.map fun c=>.str ⟨#[c]⟩) none e):WI gd (.str a) env QI:=by
 obtain ⟨r,e',h1,ds,h2,h3⟩:=h;exact ⟨_,_,_,by simp only [dI,h1,h2],h3⟩
theorem Hl (h:WA gd as env fun avs e=>∃ j:Int,avs=[.dat (.int j)]/\(-(2 ^ 62)<=j/\j<=2 ^ 24)/\QI ((List.range j.toNat).map fun (k:Nat)=>.int ((0:Int)+(k:Int))) none e):WI gd (.rng1 as) env QI:=by
 obtain ⟨r,e',h1,j,rfl,h2,h3⟩:=h;exact ⟨_,_,_,by simp only [dI,h1];rw [Ip h2],h3⟩
end
end L2
end
section
namespace L2
open PySem
theorem vW {e:En} {i:Nat} {s:Sl} (h:e[i]?=some s) (q:soft s):free e i=true:=by
 unfold free;rw [h];cases s with
 | ino d=>exact absurd rfl (q.1 d)
 | ro d=>exact absurd rfl (q.2 d)
 | _=>rfl
theorem yt:soft .un:=⟨fun _=>nofun,fun _=>nofun⟩
theorem uC {d:PyData}:soft (.dat d):=⟨fun _=>nofun,fun _=>nofun⟩
theorem D4 {d:PyData}:soft (.own d):=⟨fun _=>nofun,fun _=>nofun⟩
theorem uJ {e:En} {x y:AV} {xs ys:List PyData} {Q:RV->En->Prop} (h1:cn e [x,y]=some [.list xs,.list ys]) (h2:xs.length+ys.length<=sizeLine) (q:Q (.frs (.list (xs++ys))) e):WPr dW [x,y] e Q :=
 ⟨_,.frs (.list (xs++ys)),h1,by show (if xs.length+ys.length<=sizeLine then _ else _)=_;rw [Ip h2],q⟩
theorem Ce {e:En} {x y:AV} {xs ys:Str} {Q:RV->En->Prop} (h1:cn e [x,y]=some [.str xs,.str ys]) (h2:xs.length+ys.length<=sizeLine) (q:Q (.dat (.str (xs++ys))) e):WPr dW [x,y] e Q :=
 ⟨_,.dat (.str (xs++ys)),h1,by show (if xs.length+ys.length<=sizeLine then _ else _)=_;rw [Ip h2],q⟩
theorem Hs {e:En} {x y:AV} {d d':PyData} {Q:RV->En->Prop} (h1:cn e [x,y]=some [d,d']) (h2:kH d=true) (h3:kH d'=true) (q:Q (.dat (.bool (!PyData.eqv d d'))) e):WPr neP [x,y] e Q :=
 ⟨_,.dat (.bool (!PyData.eqv d d')),h1,by show (if kH d=true/\kH d'=true then _ else _)=_;rw [Ip ⟨h2,h3⟩];rfl,q⟩
theorem lg {n i:Nat} {d:PyData} (h:((List.range n).map fun (k:Nat)=>PyData.int ((0:Int)+(k:Int)))[i]?=some d):d=.int i/\i < n:=by
 rw [IJ] at h;cases q:(List.range n)[i]? with
 | none=>rw [q] at h;cases h
 | some j =>
  rw [q] at h;obtain ⟨hi,e⟩:=Ie.mp q;rw [Js] at hi;have:j=i:=by rw [<- e];simp
  subst this;cases h;exact ⟨by simp,hi⟩
theorem oA {n:Nat}:((List.range n).map fun (k:Nat)=>PyData.int ((0:Int)+(k:Int))).length=n:=by rw [Ig,Js]
theorem atV {α:Type} {xs:List α} {r:Int} (h0:0<=r) (h1:r < xs.length):∃ v,v∈xs/\atI xs r=some v:=by
 have hj:r.toNat < xs.length:=by omega
 have ej:r=((r.toNat:Nat):Int):=by omega
 refine ⟨xs[r.toNat],List.getElem_mem hj,?_⟩;have:=nS (xs:=xs) (j:=r.toNat) (v:=xs[r.toNat]) (Ia hj);rw [<- ej] at this;exact this
theorem vJ {α:Type} {xs:List α} {k:Int} (h:0<=k):cutD xs none (some k)=xs.take k.toNat:=by
 unfold cutD;simp only [HT.sIx,KG,Nat.sub_zero];rw [Im (by omega)];by_cases z:k.toNat<=xs.length
 ·congr 1;omega
 ·rw [Jx (by omega),Jx (by omega)]
theorem nM (x:Str):x.cps.toList.length=x.length:=by simp [Str.length]
mutual
theorem eqv_refl:∀ d:PyData,noD d=true->PyData.eqv d d=true
 | .none,_=>by simp [PyData.eqv]
 | .bool b,_=>by simp [PyData.eqv]
 | .int i,_=>by simp [PyData.eqv]
 | .str x,_=>by simp [PyData.eqv]
 | .list xs,h=>by simpa [PyData.eqv] using eqvAll_refl xs (by simpa [noD] using h)
 | .tuple xs,h=>by simpa [PyData.eqv] using eqvAll_refl xs (by simpa [noD] using h)
 | .dict _,h=>by simp [noD] at h
theorem eqvAll_refl:∀ ds:List PyData,j0 ds=true->PyData.eqvAll ds ds=true
 | [],_=>by simp [PyData.eqvAll]
 | d :: ds,h=>by
  have h':noD d=true/\j0 ds=true:=by simpa [j0] using h
  simp [PyData.eqvAll,eqv_refl d h'.1,eqvAll_refl ds h'.2]
end
theorem oU:∀ {ds:List PyData},j0 ds=true↔∀ d∈ds,noD d=true
 | []=>by simp [j0]
 | d :: ds=>by simp [j0,oU (ds:=ds)]
theorem fw {k:Nat}:∀ {ds:List PyData},(∀ d∈ds,d.depth<=k)->PyData.depthAll ds<=k
 | [],_=>by simp [PyData.depthAll]
 | d :: ds,h=>by
  have h1:=h d Ik;have h2:=fw fun x hx=>h x (Io _ hx);simp only [PyData.depthAll];omega
theorem zT {k:Nat} {ds:List PyData} (h:∀ d∈ds,d.depth<=k):(PyData.list ds).depth<=k+1:=by
 simp only [PyData.depth];have:=fw h;omega
theorem jv {k:Nat} {ds:List PyData} (h:∀ d∈ds,d.depth<=k):(PyData.tuple ds).depth<=k+1:=by
 simp only [PyData.depth];have:=fw h;omega
theorem ye {d:PyData} (h1:noD d=true) (h2:d.depth<=64):kH d=true:=by simp [kH,h1,h2]
end L2
end
section
namespace L2
open PySem
section
variable {gd:List PyData} {env e1:En} {Q:RV->En->Prop} {a:XE} {as:XA}
end
end L2
end
section
namespace L2
open PySem PySem.Spec PyProof.Rows
theorem j9:∀ bs:List Bool,i4 (bs.map .bool)=some bs
 | []=>rfl
 | b :: bs=>by
  rw [Jj];unfold i4;rw [j9 bs]
end L2
end
section
namespace L2
open PySem PySem.Spec PyProof.Rows
def zX:List (Option Sl)->En->Prop
 | [],e=>e=[]
 | some s :: r,e=>∃ e',zX r e'/\e=s :: e'
 | none :: r,e=>∃ x e',soft x/\zX r e'/\e=x :: e'
section
variable {gd:List PyData} {e e':En} {E:Kn} {Q:RV->En->Prop} {QA:List AV->En->Prop} {QT:Bool->En->Prop} {QI:List PyData->Option Nat->En->Prop} {N:En->Prop} {i:Nat} {r:RV}
theorem BP (h:e=e') (q:AW i r e' N):AW i r e N:=h▸q
theorem yh (h:e=e') (q:rD i r e' N):rD i r e N:=h▸q
theorem As {is:List Nat} (h:e=e') (q:DE is r e' N):DE is r e N:=h▸q
theorem G5 {as:XA} (h:e=e') (q:WA gd as e' QA):WA gd as e QA:=h▸q
theorem G9 {a:XE} (h:e=e') (q:WE gd a e' Q):WE gd a e Q:=h▸q
theorem Hf {s:XS} (h:e=e') (q:WS gd s e' E):WS gd s e E:=h▸q
theorem Ho {t:XT} (h:e=e') (q:WT gd t e' QT):WT gd t e QT:=h▸q
theorem Hj {t:XI} (h:e=e') (q:WI gd t e' QI):WI gd t e QI:=h▸q
theorem ED {p:Prm} {avs:List AV} (h:e=e') (q:WPr p avs e' Q):WPr p avs e Q:=h▸q
theorem yd {f:Fn} {avs:List AV} (h:e=e') (q:qM f avs e' Q):qM f avs e Q:=h▸q
theorem Ff {mk:List PyData->RV} {avs:List AV} (h:e=e') (q:WTp mk avs e' Q):WTp mk avs e Q:=h▸q
theorem D7 {m:Mtr} {avs:List AV} (h:e=e') (q:WMr m i avs e' Q):WMr m i avs e Q:=h▸q
theorem EF {m:Mtd} {avs:List AV} (h:e=e') (q:Ds m r avs e' Q):Ds m r avs e Q:=h▸q
theorem Cu {m:Mtd} {as:XA} (h:e=e') (q:DF gd m as r e' Q):DF gd m as r e Q:=h▸q
theorem A5 {ms:List PM} {QF:PR->List PyData->Prop} (h:e=e') (q:Du ms QF r e'):Du ms QF r e:=h▸q
theorem zx {ms:List PM} {QF:PR->List PyData->Prop} (h:e=e') (q:vP ms QF e'):vP ms QF e:=h▸q
theorem Bm (h:e=e') (q:C4 r e' QI):C4 r e QI:=h▸q
theorem AJ {m:xI} {a:XE} (h:e=e') (q:DB gd m i a r e' N):DB gd m i a r e N:=h▸q
theorem z8 {m:xI} {v:PyData} (h:e=e') (q:A9 m i v r e' N):A9 m i v r e N:=h▸q
end
theorem isEq {b:Bool} {avs:List AV} {e:En} {Q:RV->En->Prop} (h:WPr (Dr b) avs e Q):WPr (Dr b) avs e Q:=h
theorem qc {env e2:En} {i:Nat} {is:List Nat} {d:PyData} {ds:List PyData} (h:free env i=true) (q:gu (env.set i (.dat d)) is ds=some e2):gu env (i :: is) (d :: ds)=some e2:=by
 simp only [gu];rw [Ip h];exact q
theorem DI {e:En} {x y:AV} {d:PyData} {Q:RV->En->Prop} (h1:cn e [x,y]=some [d,d]) (h2:kH d=true) (q:Q (.dat (.bool false)) e):WPr neP [x,y] e Q :=
 Hs h1 h2 h2 (by rw [eqv_refl d (by have:=h2;simp only [kH,Ji] at this;exact this.1)];exact q)
def GO (p:Prm) (r r2:RV) (k:PyData->Bool->Prop):Prop:=∃ x y b,r.av=.dat x/\r2.av=.dat y/\p.f [x,y]=some (.dat (.bool b))/\k y b
def G3 (p:Prm) (y:PyData) (r:RV) (e:En) (Q:RV->En->Prop):Prop:=∃ z pr,r.av=.dat z/\p.f [y,z]=some pr/\Q pr.rv e
theorem CW {gd:List PyData} {env:En} {p p':Prm} {a b c:XE} {Q:RV->En->Prop} (h:WE gd a env fun r e=>WE gd b e fun r2 e2=>GO p r r2 fun y k=>if k=true then WE gd c e2 fun r3 e3=>G3 p' y r3 e3 Q else Q (.dat (.bool false)) e2):WE gd (.chn p p' a b c) env Q:=by
 refine Gb ?_;obtain ⟨r,e,h1,r2,e2,h2,x,y,k,h3,h4,h5,h6⟩:=h;exact ⟨r,e,h1,r2,e2,h2,x,y,k,h3,h4,h5,h6⟩
theorem w_all {e:En} {x:AV} {bs:List Bool} {Q:RV->En->Prop} (h1:cn e [x]=some [.list (bs.map .bool)]) (q:Q (.dat (.bool (bs.all id))) e):WPr zU [x] e Q:=by
 refine ⟨_,.dat (.bool (bs.all id)),h1,?_,q⟩;show (i4 (bs.map .bool)).map _=_;rw [j9];rfl
theorem take_snoc {α:Type} {xs:List α} {i:Nat} {x:α} (h:xs[i]?=some x):xs.take i++[x]=xs.take (i+1):=by
 rw [List.take_add_one,h];rfl
theorem pT {α:Type} {P:α->Prop} {xs:List α} {y:α} (h:∀ x∈xs,P x) (hy:P y):∀ x∈xs++[y],P x:=fun x hm=>by
 rcases Ja.mp hm with hm | hm
 ·exact h x hm
 ·rw [Iq.mp hm];exact hy
end L2
end
section
namespace L2
open PySem PySem.Spec PyProof.Rows
section
variable {gd:List PyData} {a:XE} {env:En} {QI:List PyData->Option Nat->En->Prop}
def G6 (r:RV) (e:En) (QI:List PyData->Option Nat->En->Prop):Prop:=(∃ kvs,r.av=.dat (.dict kvs)/\QI (kvs.map (·.1)) none e)\/∃ i kvs,r.av=.bor i/\cont e i=some (.dict kvs)/\QI (kvs.map (·.1)) (some i) e
theorem Hk (h:WE gd a env fun r e=>G6 r e QI):WI gd (.dct a) env QI:=by
 obtain ⟨r,e',h1,⟨kvs,h2,h3⟩ | ⟨i,kvs,h2,h4,h3⟩⟩:=h
 ·exact ⟨_,_,_,by simp only [dI,h1,h2],h3⟩
 ·exact ⟨_,_,_,by simp only [dI,h1,h2,h4],h3⟩
end
theorem xm {i:Nat} {v k:PyData} {rk:RV} {e2:En} {N:En->Prop} {kvs:List (PyData×PyData)} (h1:rk.view e2=some k) (h2:bp e2 i=some (.dict kvs)) (h3:hk6 k=true) (h4:kvs.length < sizeLine) (q:N (iR e2 i (.dict (putD kvs k v)))):A9 qA i v rk e2 N :=
 ⟨_,_,_,h1,h2,by show (if hk6 k=true/\kvs.length < sizeLine then some (PyData.dict (putD kvs k v)) else none)=_;rw [Ip ⟨h3,h4⟩],q⟩
end L2
end
section
namespace L2
open PySem PySem.Spec PyProof.Rows PySem.W
structure Ord (lt:Nat->Nat->Bool) (n:Nat):Prop where
 irr:∀ i,lt i i=false
 tr:∀ i j k,lt i j=true->lt j k=true->lt i k=true
 tot:∀ i j,i < n->j < n->i≠j->lt i j=false->lt j i=true
def at_ (p:Array Nat) (i:Nat):Nat:=p.getD i 0
def Up (lt:Nat->Nat->Bool) (p:Array Nat) (m:Nat):Prop:=∀ i,i+1 < m->lt (at_ p i) (at_ p (i+1))=true
section
variable {lt:Nat->Nat->Bool} {n:Nat} {p:Array Nat}
def Pm (n:Nat) (p:Array Nat):Prop:=p.Perm (List.range n).toArray
theorem Pm.size (h:Pm n p):p.size=n:=by
 have:=Array.Perm.size_eq h;simpa using this
theorem Up.all (O:Ord lt n) {m:Nat} (h:Up lt p m) {i j:Nat} (hij:i < j) (hj:j < m):lt (at_ p i) (at_ p j)=true:=by
 induction j with
 | zero=>omega
 | succ j ih =>
  by_cases e:i=j
  ·subst e;exact h i hj
  ·exact O.tr _ _ _ (ih (by omega) (by omega)) (h j hj)
end
end L2
end
section
namespace L2
open PySem PySem.Spec PyProof.Rows PySem.W
section
variable {P:Program} {w:World} {A:Around} {E:Value->Shared->Prop} {s:Shared} {d:Addr} {es:Array DictEntry} {ep:Nat}
def OkD (d:Addr) (es:Array DictEntry) (ep:Nat) (h:Heap):Prop:=∃ od,h.get? d=some od/\od.ExactDict/\od.data=.dict es ep
def Et (es:Array DictEntry) (i:Nat) (v:Value):Prop:=∃ e,es[i]?=some e/\v=e.key
theorem A0 (hh:A.handled=none) (I:Addr) (hne:d≠I):Walks P w A I [I,d] [I] es.size (Et es) (fun i h=>h.IsKeyIter I d i es.size ep/\OkD d es ep h) where
 sub:=fun b hb=>by simp at hb;simp [hb]
 frame:=fun _ _ _ st hk=>⟨st.1.at fun o e=>hk I (by simp) o e,let ⟨od,g,r⟩:=st.2;⟨od,hk d (by simp) _ g,r⟩⟩
 item:=fun i s Q E hi st hQ=>by
  obtain ⟨it,od,g1,g2,g3⟩:=st;refine z4 it g1 g3 (Jp hi) fun h' it' sb=>?_;exact hQ _ h' s.toks ⟨_,Jp hi,rfl⟩ ⟨it',od,(sb.2 d hne).trans g1,g2,g3⟩ fun b o hb e=>(sb.2 b (fun z=>hb (by simp [z]))).trans e
 done:=fun s Q E st hQ=>by
  obtain ⟨it,od,g1,g2,g3⟩:=st;exact Fl hh it g1 g3 (Iv _) fun h' eb=>hQ h' s.toks fun b o hb e=>eb b o (fun z=>hb (by simp [z])) e
 self:=fun _ _ _ _ st hQ=>wpAny_pyIter_keyiter st.1 hQ
theorem Hc (lo:(d==sysModules)=false):KdlSrc P w "dict" d d es.size (Et es) (OkD d es ep) where
 type:=fun _ ⟨od,g1,g2,_⟩=>⟨od,g1,g2.1⟩
 there:=fun _ ⟨od,g1,_⟩=>⟨IF g1,IF g1⟩
 keep:=fun _ _ ⟨od,g1,r⟩ hk=>⟨od,hk d (.inl rfl) _ g1,r⟩
 notList:=by decide
 notTuple:=by decide
 hint:=fun _ _ _ _ ⟨od,g1,g2,_⟩ hq=>kdl_hint_dict ⟨od,g1,g2.1⟩ hq
 iter:=fun _ s hh ⟨od,g1,g2,g3⟩=>⟨_,_,(fun _ _ hq=>CF lo g1 g2 g3 hq),A0 hh _ (Jf (IF g1)),⟨⟨_,IX _ rfl,rfl,rfl⟩,od,Iw _ g1,g2,g3⟩⟩
theorem EU {R:Result->Shared->Prop} (hh:A.handled=none) (lo:(d==sysModules)=false) (ok:OkD d es ep s.heap) (hz:es.size<=sizeLine) {S:Addr} (ne:S≠d) (gS:s.heap.get? S=some { cls:=.type "list", data:=.seq #[] })
  (h:∀ h' tk acc' c',(∀ b o,b≠S->s.heap.get? b=some o->h'.get? b=some o)->h'.get? S=some { cls:=.type "list", dict:=none,data:=.seq acc' c',slots:=#[] }->ItemsOf (Et es) acc' es.size->R (.ok (.ret (.ref S))) { s with heap:=h',toks:=tk }) :
  codeAny (model P w) A (.builtin "list.__iadd__" ⟨[.ref S,.ref d],[]⟩) R s:=by
 refine codeAny_builtin F.entry_list_iadd ?_;rw [Around.under_plainId F.plain_list_iadd _];show wpAny _ A.in1 (Builtin.List.listExtendWith (.ref S) (.ref d) (.ref S)) _ _ _;exact kdl_extend (Hc lo) hh ok S ne ne (.ref S) 0 gS h hz
theorem DH {Q:List Value->Shared->Prop} (hh:A.handled=none) (lo:(d==sysModules)=false) (ok:OkD d es ep s.heap) (hz:es.size<=sizeLine)
  (h:∀ vs h' tk,vs=(es.toList.map (·.key))->s.heap.objs.size < h'.objs.size->(∀ b o,s.heap.get? b=some o->h'.get? b=some o)->Q vs { s with heap:=h',toks:=tk }) :
  wpAny (model P w) A (collect (.ref d)) Q E s:=by
 obtain ⟨od,ho,g2,g3⟩:=id ok;unfold collect;refine Ib (wpAny_runValue (codeAny_builtin F.entry_proto_collect ?_));rw [Around.under_plainId F.plain_proto_collect _];show wpAny _ A.in1 (newList []>>=fun l=>again (.builtin "list.__iadd__" ⟨[l,.ref d],[]⟩)) _ _ s;refine Ib (JJ ?_);have hlt:d < s.heap.objs.size:=IF ho;have ne:s.heap.objs.size≠d:=Nat.ne_of_gt hlt;have g1:OkD d es ep (s.heap.push { cls:=.type "list", data:=.seq ([]:List Value).toArray }):=⟨od,Iw _ ho,g2,g3⟩;have gS:(s.heap.push { cls:=.type "list", data:=.seq ([]:List Value).toArray }).get? s.heap.objs.size=some { cls:=.type "list", data:=.seq ([]:List Value).toArray }:=IX _ rfl;refine Il ⟨plainId_quiet F.plain_list_iadd _,EU (s:={ s with heap:=s.heap.push { cls:=.type "list", data:=.seq ([]:List Value).toArray } }) hh lo g1 hz ne gS fun h' tk acc' c' hk hS' hacc=>?_⟩;show wpAny _ A (load s.heap.objs.size>>=_) _ _ _;refine Ib (wpAny_load hS' ?_);refine Il ?_;show Q acc'.toList _;refine h _ h' tk ?_ (IF hS') fun b o e=>hk b o (Jf (IF e)) (Iw _ e);apply List.ext_getElem?;intro j;rw [Array.getElem?_toList,IJ,Array.getElem?_toList];rcases Nat.lt_or_ge j es.size with z | z
 ·have zj:j < acc'.size:=by rw [hacc.1];exact z
  obtain ⟨e,h1,h2⟩:=hacc.2 j _ (Jp zj);rw [Jp zj,h1,h2];rfl
 ·rw [Array.getElem?_eq_none (by rw [hacc.1];exact z),Array.getElem?_eq_none z];rfl
end
end L2
end
section
namespace L2
open PySem PySem.Spec PyProof.Rows PySem.W
def fC:Bool->Keyed->Array Keyed->Nat->Nat->Nat->StateT SortSt Sem (Option Nat):=sortPriv% PySem.Builtin.gallop
def byd (left:Bool) (key:Keyed) (arr:Array Keyed) (base i:Nat):StateT SortSt Sem (Option Bool) :=
 elem' arr (base+i)>>=fun x=>if left=true then lt' x key else lt' key x>>=fun r=>pure (r.map fun b=>!b)
def hfB (left:Bool) (key:Keyed) (arr:Array Keyed) (base:Nat) (c:Option (Option Nat)×Nat×Nat):StateT SortSt Sem (ForInStep (Option (Option Nat)×Nat×Nat)) :=
 if c.2.1>=c.2.2 then pure (.done (none,c.2.1,c.2.2)) else
  byd left key arr base (c.2.1+(c.2.2 - c.2.1) / 2)>>=fun r=>match r with
   | some b=>if b=true then pure (.yield (none,c.2.1+(c.2.2 - c.2.1) / 2+1,c.2.2)) else pure (.yield (none,c.2.1,c.2.1+(c.2.2 - c.2.1) / 2))
   | _=>pure (.done (some none,c.2.1,c.2.2))
theorem bindC {α β:Type} {m m':StateT SortSt Sem α} {f f':α->StateT SortSt Sem β} (h:m=m') (k:∀ a,f a=f' a):(m>>=f)=(m'>>=f'):=by
 subst h;exact Ke k
section
variable {M:Model} {A:Around} {E:Value->Shared->Prop} {s:Shared}
theorem wM {α:Type} {m m':StateT SortSt Sem α} {Q:α->SortSt->Prop} {st:SortSt} (e:m=m') (h:wpS M A E s m' Q st):wpS M A E s m Q st:=e▸h
theorem xO {left:Bool} {key:Keyed} {arr:Array Keyed} {base n lo hi:Nat} {P:Nat->Bool} {st:SortSt} {Q:Option Nat->SortSt->Prop}
  (hb:∀ i (C:Option Bool->SortSt->Prop),i < n->C (some (P i)) st->wpS M A E s (byd left key arr base i) C st) (hm:∀ i j,i<=j->j < n->P j=true->P i=true)
  (h0:hi<=n) (hl:lo<=hi) (h1:∀ i,i < lo->P i=true) (h2:∀ i,hi<=i->i < n->P i=false)
  (h:∀ k,k<=n->(∀ i,i < k->P i=true)->(∀ i,k<=i->i < n->P i=false)->Q (some k) st) :
  wpS M A E s (forIn [0:n] ((none,lo,hi):Option (Option Nat)×Nat×Nat) (fun _ c=>hfB left key arr base c)>>=fun c=>match c.1 with
   | some r=>pure r
   | none=>pure (some c.2.2)) Q st:=by
 refine IG (Ju (I:=fun i c st'=>st'=st/\c.1=none/\c.2.1<=c.2.2/\c.2.2<=n/\c.2.2 - c.2.1<=n - i/\(∀ i,i < c.2.1->P i=true)/\(∀ i,c.2.2<=i->i < n->P i=false)) ?_ ?_ ⟨rfl,rfl,hl,h0,by dsimp only;omega,h1,h2⟩)
 ·rintro i ⟨r,lo,hi⟩ _ _ hi' ⟨rfl,e,a1,a2,a3,a4,a5⟩;dsimp only at e a1 a2 a3 a4 a5 ⊢;subst e;unfold hfB;dsimp only;by_cases c:lo>=hi
  ·rw [Ip c];exact IC (IC (h hi a2 (fun i z=>a4 i (by omega)) a5))
  ·rw [Im c];refine IG (hb _ _ (by omega) ?_);dsimp only;cases e:P (lo+(hi - lo) / 2) with
   | true =>
    rw [Ip rfl];exact IC ⟨rfl,rfl,by dsimp only;omega,a2,by dsimp only;omega,fun i z=>hm _ _ (by dsimp only at z;omega) (by omega) e,a5⟩
   | false =>
    rw [Im IE];refine IC ⟨rfl,rfl,by dsimp only;omega,by dsimp only;omega,by dsimp only;omega,a4,fun i z y=>?_⟩;cases e':P i with
    | false=>rfl
    | true=>rw [hm _ _ z y e'] at e;exact absurd e (by decide)
 ·rintro ⟨r,lo,hi⟩ _ ⟨rfl,e,a1,a2,a3,a4,a5⟩;dsimp only at e a1 a2 a3 a4 a5 ⊢;subst e;exact IC (h hi a2 (fun i z=>a4 i (by omega)) a5)
theorem vj {left:Bool} {key:Keyed} {arr:Array Keyed} {base n hint:Nat} {P:Nat->Bool} {st:SortSt} {Q:Option Nat->SortSt->Prop}
  (hb:∀ i (C:Option Bool->SortSt->Prop),i < n->C (some (P i)) st->wpS M A E s (byd left key arr base i) C st) (hm:∀ i j,i<=j->j < n->P j=true->P i=true)
  (hn:hint < n)
  (h:∀ k,k<=n->(∀ i,i < k->P i=true)->(∀ i,k<=i->i < n->P i=false)->Q (some k) st) :
  wpS M A E s (fC left key arr base n hint) Q st:=by
 have hmf:∀ i j,i<=j->j < n->P i=false->P j=false:=fun i j hij hj e=>by
  cases e':P j with
  | false=>rfl
  | true=>rw [hm _ _ hij hj e'] at e;exact absurd e (by decide)
 unfold fC;refine IG (hb _ _ hn ?_);dsimp only;cases e:P hint with
 | true =>
  rw [Ip rfl];refine IG (JM (Ju (I:=fun i (c:Option (Option Nat)×Nat×Nat) st'=>st'=st/\c.1=none/\c.2.1 < c.2.2/\i+1<=c.2.2/\hint+c.2.1 < n/\P (hint+c.2.1)=true) (Q:=fun (c:Option (Option Nat)×Nat×Nat) st'=>st'=st/\c.1=none/\c.2.1 < c.2.2/\hint+c.2.1 < n/\P (hint+c.2.1)=true/\∀ i,hint+min c.2.2 (n - hint)<=i->i < n->P i=false) ?_ ?_ ⟨rfl,rfl,Kg _,Iv _,hn,e⟩) ?_)
  ·rintro i ⟨r,lo,hi⟩ _ _ hi' ⟨rfl,e,a1,a2,a3,a4⟩;dsimp only at e a1 a2 a3 a4 ⊢;subst e;by_cases c:hi>=n - hint
   ·rw [Ip c];exact IC ⟨rfl,rfl,a1,a3,a4,fun i z y=>by dsimp only at z;omega⟩
   ·rw [Im c];refine IG (hb _ _ (by omega) ?_);dsimp only;cases e:P (hint+hi) with
    | true =>
     rw [Im (by decide)];exact IC ⟨rfl,rfl,by dsimp only;omega,by dsimp only;omega,by dsimp only;omega,e⟩
    | false =>
     rw [Ip (by decide)];exact IC ⟨rfl,rfl,a1,a3,a4,fun i z y=>hmf _ _ (by dsimp only at z;omega) y e⟩
  ·rintro ⟨r,lo,hi⟩ _ ⟨rfl,e,a1,a2,a3,a4⟩;exact ⟨rfl,e,a1,a3,a4,fun i z y=>by dsimp only at z a2;omega⟩
  ·rintro ⟨r,lo,hi⟩ _ ⟨rfl,e,a1,a2,a3,a4⟩;dsimp only at e a1 a2 a3 a4 ⊢;subst e;refine wM ?_ (xO (lo:=hint+lo+1) (hi:=hint+min hi (n - hint)) hb hm (by omega) (by omega) (fun i z=>hm _ _ (by omega) a2 a3) a4 h);exact bindC (by congr 1) fun c=>by cases c.1 <;> rfl
 | false =>
  rw [Im IE];refine IG (JM (Ju (I:=fun i (c:Option (Option Nat)×Nat×Nat) st'=>st'=st/\c.1=none/\c.2.1 < c.2.2/\i+1<=c.2.2/\c.2.1<=hint/\P (hint - c.2.1)=false) (Q:=fun (c:Option (Option Nat)×Nat×Nat) st'=>st'=st/\c.1=none/\c.2.1 < c.2.2/\c.2.1<=hint/\P (hint - c.2.1)=false/\∀ i,i < hint+1 - min c.2.2 (hint+1)->P i=true) ?_ ?_ ⟨rfl,rfl,Kg _,Iv _,Jw _,e⟩) ?_)
  ·rintro i ⟨r,lo,hi⟩ _ _ hi' ⟨rfl,e,a1,a2,a3,a4⟩;dsimp only at e a1 a2 a3 a4 ⊢;subst e;by_cases c:hi>=hint+1
   ·rw [Ip c];exact IC ⟨rfl,rfl,a1,a3,a4,fun i z=>by dsimp only at z;omega⟩
   ·rw [Im c];refine IG (hb _ _ (by omega) ?_);dsimp only;cases e:P (hint - hi) with
    | true =>
     rw [Ip rfl];exact IC ⟨rfl,rfl,a1,a3,a4,fun i z=>hm _ _ (by dsimp only at z;omega) (by omega) e⟩
    | false =>
     rw [Im IE];exact IC ⟨rfl,rfl,by dsimp only;omega,by dsimp only;omega,by dsimp only;omega,e⟩
  ·rintro ⟨r,lo,hi⟩ _ ⟨rfl,e,a1,a2,a3,a4⟩;exact ⟨rfl,e,a1,a3,a4,fun i z=>by dsimp only at z a2;omega⟩
  ·rintro ⟨r,lo,hi⟩ _ ⟨rfl,e,a1,a2,a3,a4⟩;dsimp only at e a1 a2 a3 a4 ⊢;subst e;refine wM ?_ (xO hb hm (by omega) (by omega) a4 (fun i z y=>hmf _ _ z y a3) h);exact bindC (by congr 1) fun c=>by cases c.1 <;> rfl
end
end L2
end
section
namespace L2
open PySem PySem.Spec PyProof.Rows PySem.W
def arK (F:Nat->Keyed) (l:List Nat):Array Keyed:=(l.map F).toArray
section
variable {F:Nat->Keyed} {l m:List Nat}
theorem bH:(arK F l).size=l.length:=by simp [arK]
theorem eG {x:Nat}:(arK F l).push (F x)=arK F (l++[x]):=by simp [arK]
theorem dR:arK F l++arK F m=arK F (l++m):=by simp [arK]
theorem sO:(arK F l).reverse=arK F l.reverse:=by simp [arK]
theorem qm {i j:Nat}:(arK F l).extract i j=arK F ((l.drop i).take (j - i)):=by simp [arK,List.extract_eq_drop_take,List.map_drop,List.map_take]
theorem pW {i:Nat}:(arK F l).extract i l.length=arK F (l.drop i):=by rw [qm,Jx (by simp)]
theorem pB {j:Nat}:(arK F l).extract 0 j=arK F (l.take j):=by rw [qm,KG,Nat.sub_zero]
theorem Cn {i x:Nat} (h:l[i]?=some x):(arK F l)[i]?=some (F x):=by simp [arK,h]
theorem b5 {i x:Nat} (h:l[i]?=some x):l.drop i=x :: l.drop (i+1):=by
 obtain ⟨hi,e⟩:=Ie.mp h;rw [Jz hi,e]
end
structure Mg (lt:Nat->Nat->Bool) (tot o A B:List Nat):Prop where
 sa:(o++A).Pairwise fun x y=>lt x y=true
 sb:(o++B).Pairwise fun x y=>lt x y=true
 pm:(o++(A++B)).Perm tot
section
variable {lt:Nat->Nat->Bool} {tot o A B A1 A2 B1 B2:List Nat} {x y:Nat}
theorem Mg.symm (h:Mg lt tot o A B):Mg lt tot o B A:=⟨h.sb,h.sa,(Kb o List.perm_append_comm).trans h.pm⟩
theorem Mg.left (h:Mg lt tot o (A1++A2) B) (q:∀ x∈A1,∀ y∈B,lt x y=true):Mg lt tot (o++A1) A2 B:=by
 refine ⟨by rw [IK];exact h.sa,?_,by have:=h.pm;simp only [IK] at this ⊢;exact this⟩;have h1:=ID.mp h.sa;have h2:=ID.mp h.sb;have h3:=ID.mp h1.2.1;rw [IK,ID];refine ⟨h1.1,ID.mpr ⟨h3.1,h2.2.1,q⟩,fun a ha b hb=>?_⟩;rcases Ja.mp hb with z | z
 ·exact h1.2.2 a ha b (IL _ z)
 ·exact h2.2.2 a ha b z
theorem Mg.right (h:Mg lt tot o A (B1++B2)) (q:∀ x∈B1,∀ y∈A,lt x y=true):Mg lt tot (o++B1) A B2:=(h.symm.left q).symm
theorem Mg.len (h:Mg lt tot o A B):o.length+(A.length+B.length)=tot.length:=by simpa using h.pm.length_eq
theorem Mg.vX {N:Nat} (O:Ord lt N) (h:Mg lt tot o (x :: A) (y :: B)) (q:lt y x=true):∀ z∈[y],∀ w∈x :: A,lt z w=true:=by
 intro z hz w hw;rw [Iq] at hz;subst hz;rcases Iz.mp hw with rfl | hw
 ·exact q
 ·exact O.tr _ _ _ q ((JB.mp (ID.mp h.sa).2.1).1 _ hw)
theorem Mg.ne (h:Mg lt tot o A B) (nd:tot.Nodup) (hx:x∈A) (hy:y∈B):x≠y:=by
 have h1:=(Jg.mp (h.pm.nodup_iff.mpr nd)).2.1;exact (Jg.mp h1).2.2 x hx y hy
theorem Mg.inA (h:Mg lt tot o A B) (hx:x∈A):x∈tot:=h.pm.mem_iff.mp (Ij _ (IL _ hx))
theorem Mg.inB (h:Mg lt tot o A B) (hx:x∈B):x∈tot:=h.symm.inA hx
theorem Mg.les {N:Nat} (O:Ord lt N) (nd:tot.Nodup) (bd:∀ x∈tot,x < N) (h:Mg lt tot o A B) (hx:x∈A) (hy:y∈B) (e:lt y x=false):lt x y=true :=
 O.tot y x (bd _ (h.inB hy)) (bd _ (h.inA hx)) (Ne.symm (h.ne nd hx hy)) e
theorem Mg.low {N:Nat} (O:Ord lt N) (h:Mg lt tot o A (y :: B)) (q:∀ x∈A1,lt x y=true):∀ x∈A1,∀ w∈y :: B,lt x w=true:=by
 intro x hx w hw;rcases Iz.mp hw with rfl | hw
 ·exact q x hx
 ·exact O.tr _ _ _ (q x hx) ((JB.mp (ID.mp h.sb).2.1).1 _ hw)
end
section
variable {M:Model} {E:Value->Shared->Prop} {Ar:Around} {s:Shared} {F:Nat->Keyed} {lt:Nat->Nat->Bool} {N:Nat} {κ:SortKind}
theorem bu {α:Type} {l:List Nat} {i x:Nat} {st:SortSt} {f:Keyed->StateT SortSt Sem α} {Q:α->SortSt->Prop} (h:l[i]?=some x) (q:wpS M Ar E s (f (F x)) Q st):wpS M Ar E s (elem' (arK F l) i>>=f) Q st:=by
 rw [elem'_eq,Cn h];exact IG (IC q)
def Cmp (M:Model) (Ar:Around) (E:Value->Shared->Prop) (s:Shared) (F:Nat->Keyed) (lt:Nat->Nat->Bool) (N:Nat) (κ:SortKind):Prop :=
 ∀ i j (C:Option Bool->SortSt->Prop) st,PyProof.Rows.kindOf st=κ->i < N->j < N->C (some (lt i j)) st->wpS M Ar E s (lt' (F i) (F j)) C st
theorem pv {P:Nat->Bool} {S:List Nat} {k:Nat} (hk:k<=S.length) (h1:∀ i,i < k->∀ x,S[i]?=some x->P x=true) (h2:∀ i,k<=i->i < S.length->∀ x,S[i]?=some x->P x=false) :
  ∃ S1 S2,S=S1++S2/\S1.length=k/\(∀ x∈S1,P x=true)/\∀ x∈S2,P x=false:=by
 refine ⟨S.take k,S.drop k,(List.take_append_drop k S).symm,by rw [Jh];omega,fun x hx=>?_,fun x hx=>?_⟩
 ·obtain ⟨i,hi,e⟩:=List.mem_iff_getElem.mp hx;rw [Jh] at hi;exact h1 i (by omega) x (by rw [List.getElem_take] at e;rw [Ia (by omega),e])
 ·obtain ⟨i,hi,e⟩:=List.mem_iff_getElem.mp hx;rw [JD] at hi;exact h2 (k+i) (by omega) (by omega) x (by rw [List.getElem_drop] at e;rw [Ia (by omega),e])
theorem ql {left:Bool} {y base n hint:Nat} {l S:List Nat} {st:SortSt} {Q:Option Nat->SortSt->Prop} (O:Ord lt N) (hc:Cmp M Ar E s F lt N κ) (hk:PyProof.Rows.kindOf st=κ)
  (hS:(l.drop base).take n=S) (hl:S.length=n) (hp:S.Pairwise fun x y=>lt x y=true) (hb:∀ x∈S,x < N) (hy:y < N) (hn:hint < n)
  (h:∀ S1 S2,S=S1++S2->(∀ x∈S1,(if left then lt x y else !lt y x)=true)->(∀ x∈S2,(if left then lt x y else !lt y x)=false)->Q (some S1.length) st) :
  wpS M Ar E s (fC left (F y) (arK F l) base n hint) Q st:=by
 have hx:∀ i,i < n->∃ x,S[i]?=some x/\l[base+i]?=some x/\x < N:=fun i hi=>by
  refine ⟨S[i]'(by omega),Ia _,?_,hb _ (List.getElem_mem _)⟩;have:((l.drop base).take n)[i]?=S[i]?:=by rw [hS]
  rw [List.getElem?_take_of_lt hi,List.getElem?_drop] at this;rw [this,Ia]
 refine vj (P:=fun i=>if left then lt (S.getD i 0) y else !lt y (S.getD i 0)) (fun i C hi hC=>?_) (fun i j hij hj e=>?_) hn fun k hk1 a1 a2=>?_
 ·obtain ⟨x,e1,e2,e3⟩:=hx i hi;unfold byd;refine bu e2 ?_;have eg:S.getD i 0=x:=by rw [Jc,e1];rfl
  rw [eg] at hC;cases left with
  | true =>
   rw [Ip rfl] at hC ⊢;exact hc _ _ _ _ hk e3 hy hC
  | false =>
   rw [Im IE] at hC ⊢;exact IG (hc _ _ _ _ hk hy e3 (IC hC))
 ·rcases Nat.lt_or_eq_of_le hij with z | rfl
  ·obtain ⟨x,e1,e2,e3⟩:=hx i (by omega);obtain ⟨x',e1',e2',e3'⟩:=hx j hj;have eg:S.getD i 0=x:=by rw [Jc,e1];rfl
   have eg':S.getD j 0=x':=by rw [Jc,e1'];rfl
   have hlt:lt x x'=true:=by
    obtain ⟨u1,u2⟩:=Ie.mp e1;obtain ⟨u3,u4⟩:=Ie.mp e1';have:=Jy.mp hp i j u1 u3 z
    rwa [u2,u4] at this
   try dsimp only at e ⊢
   rw [eg'] at e;rw [eg];cases left with
   | true =>
    rw [Ip rfl] at e ⊢;exact O.tr _ _ _ hlt e
   | false =>
    rw [Im IE] at e ⊢;cases e2:lt y x with
    | false=>rfl
    | true=>rw [O.tr _ _ _ e2 hlt] at e;exact e
  ·exact e
 ·obtain ⟨S1,S2,rfl,e,b1,b2⟩:=pv (S:=S) (P:=fun x=>if left then lt x y else !lt y x) (k:=k) (by omega)
   (fun i hi x e=>by have:=a1 i hi;rwa [Jc,e] at this)
   (fun i hi hi' x e=>by have:=a2 i hi (by omega);rwa [Jc,e] at this)
  rw [<- e];exact h S1 S2 rfl b1 b2
end
end L2
end
section
namespace L2
open PySem PySem.Spec PyProof.Rows PySem.W
def lu:Array Keyed->Array Keyed->StateT SortSt Sem (Array Keyed):=sortPriv% PySem.Builtin.mergeLo
def uD:Nat->StateT SortSt Sem Unit:=sortPriv% PySem.Builtin.setMinGallop
theorem iW (g:Nat):uD g=modify fun s=>SortSt.mk' (PyProof.Rows.kindOf s) (arrOf s) (pendingOf s) g (failedOf s):=rfl
abbrev CL:=Option (Array Keyed)×Array Keyed×Nat×Nat×Nat×Nat
abbrev CG:=Option (Array Keyed)×Array Keyed×Nat×Nat×Nat×Nat×Nat
abbrev fA (a b out:Array Keyed) (ia ib:Nat):=out++a.extract ia a.size++b.extract ib b.size
abbrev fL (a b out:Array Keyed) (ia ib:Nat):=out++b.extract ib b.size++a.extract ia a.size
def lo1 (a b:Array Keyed) (mg:Nat) (c:CL):StateT SortSt Sem (ForInStep CL):=do
 let some bWins<-lt' (<- elem' b c.2.2.2.1) (<- elem' a c.2.2.1) | return .done (some (fA a b c.2.1 c.2.2.1 c.2.2.2.1),c.2)
 if bWins then
  let x<-elem' b c.2.2.2.1
  if c.2.2.2.1+1==b.size then return .done (some (fA a b (c.2.1.push x) c.2.2.1 (c.2.2.2.1+1)),c.2.1.push x,c.2.2.1,c.2.2.2.1+1,0,c.2.2.2.2.2+1)
  if c.2.2.2.2.2+1>=mg then return .done (none,c.2.1.push x,c.2.2.1,c.2.2.2.1+1,0,c.2.2.2.2.2+1)
  return .yield (none,c.2.1.push x,c.2.2.1,c.2.2.2.1+1,0,c.2.2.2.2.2+1)
 else
  let x<-elem' a c.2.2.1
  if c.2.2.1+1+1==a.size then return .done (some (fL a b (c.2.1.push x) (c.2.2.1+1) c.2.2.2.1),c.2.1.push x,c.2.2.1+1,c.2.2.2.1,c.2.2.2.2.1+1,0)
  if c.2.2.2.2.1+1>=mg then return .done (none,c.2.1.push x,c.2.2.1+1,c.2.2.2.1,c.2.2.2.2.1+1,0)
  return .yield (none,c.2.1.push x,c.2.2.1+1,c.2.2.2.1,c.2.2.2.2.1+1,0)
def lo4 (a b out:Array Keyed) (ia ib mg k k1:Nat):StateT SortSt Sem (ForInStep CG):=do
 let x<-elem' a ia
 if ia+1+1==a.size then return .done (some (fL a b (out.push x) (ia+1) ib),out.push x,ia+1,ib,mg,k,k1)
 if k < 7&&k1 < 7 then return .done (none,out.push x,ia+1,ib,mg,k,k1)
 return .yield (none,out.push x,ia+1,ib,mg,k,k1)
def lo3 (a b out:Array Keyed) (ia ib mg k bc:Nat):StateT SortSt Sem (ForInStep CG):=do
 let x<-elem' b ib
 if ib+1==b.size then return .done (some (fA a b (out.push x) ia (ib+1)),out.push x,ia,ib+1,mg,k,bc)
 let some k1<-fC true (<- elem' a ia) b (ib+1) (b.size - (ib+1)) 0 | return .done (some (fA a b (out.push x) ia (ib+1)),out.push x,ia,ib+1,mg,k,bc)
 if k1 > 0 then
  if ib+1+k1==b.size then return .done (some (fA a b (out.push x++b.extract (ib+1) (ib+1+k1)) ia (ib+1+k1)),out.push x++b.extract (ib+1) (ib+1+k1),ia,ib+1+k1,mg,k,k1)
  else lo4 a b (out.push x++b.extract (ib+1) (ib+1+k1)) ia (ib+1+k1) mg k k1
 else lo4 a b (out.push x) ia (ib+1) mg k k1
def lo2 (a b out:Array Keyed) (ia ib mg ac bc:Nat):StateT SortSt Sem (ForInStep CG):=do
 uD mg
 let some k<-fC false (<- elem' b ib) a ia (a.size - ia) 0 | return .done (some (fA a b out ia ib),out,ia,ib,mg,ac,bc)
 if k > 0 then
  if ia+k+1==a.size then return .done (some (fL a b (out++a.extract ia (ia+k)) (ia+k) ib),out++a.extract ia (ia+k),ia+k,ib,mg,k,bc)
  else
   if ia+k==a.size then return .done (some (fA a b (out++a.extract ia (ia+k)) (ia+k) ib),out++a.extract ia (ia+k),ia+k,ib,mg,k,bc)
   else lo3 a b (out++a.extract ia (ia+k)) (ia+k) ib mg k bc
 else lo3 a b out ia ib mg k bc
theorem oD (a b:Array Keyed):lu a b=(do
 rule "list.sort.merge-lo"
 let x<-elem' b 0
 if 1==b.size then return fA a b #[x] 0 1
 if 0+1==a.size then return fL a b #[x] 0 1
 let st<-get
 let r<-forIn [0:a.size+b.size] ((none,#[x],0,1,gallopOf st):Option (Array Keyed)×Array Keyed×Nat×Nat×Nat) fun _ c=>do
  let d<-forIn [0:a.size+b.size] ((none,c.2.1,c.2.2.1,c.2.2.2.1,0,0):CL) fun _ c'=>lo1 a b c.2.2.2.2 c'
  match d.1 with
  | some r=>pure (.done (some r,d.2.1,d.2.2.1,d.2.2.2.1,c.2.2.2.2))
  | none=>do
   rule "list.sort.gallop"
   let e<-forIn [0:a.size+b.size] ((none,d.2.1,d.2.2.1,d.2.2.2.1,c.2.2.2.2+1,d.2.2.2.2.1,d.2.2.2.2.2):CG) fun _ c' =>
    if c'.2.2.2.2.1 > 1 then lo2 a b c'.2.1 c'.2.2.1 c'.2.2.2.1 (c'.2.2.2.2.1 - 1) c'.2.2.2.2.2.1 c'.2.2.2.2.2.2
    else lo2 a b c'.2.1 c'.2.2.1 c'.2.2.2.1 c'.2.2.2.2.1 c'.2.2.2.2.2.1 c'.2.2.2.2.2.2
   match e.1 with
   | some r=>pure (.done (some r,e.2.1,e.2.2.1,e.2.2.2.1,e.2.2.2.2.1))
   | none=>do
    uD (e.2.2.2.2.1+1)
    pure (.yield (none,e.2.1,e.2.2.1,e.2.2.2.1,e.2.2.2.2.1+1))
 match r.1 with
 | some r=>pure r
 | none=>unsupported "internal:list.sort.merge-bound"):=by
 unfold lu;refine bindC rfl fun _=>?_;dsimp only;refine Ke fun x=>?_;congr 1;congr 1;refine Ke fun st=>?_;have:∀ {α β:Type} {m m':StateT SortSt Sem α} {f f':α->StateT SortSt Sem β},m=m'->f=f'->(m>>=f)=(m'>>=f'):=by rintro _ _ _ _ _ _ rfl rfl;rfl
 refine this ?_ ?_
 ·congr 1;funext _ c;refine this ?_ ?_
  ·congr 1
  ·funext d;cases d.1 with
   | some=>rfl
   | none =>
    dsimp only;refine Ke fun _=>?_;refine this ?_ ?_
    ·congr 1
    ·funext d;cases d.1 <;> rfl
 ·funext r;cases r.1 <;> rfl
end L2
end
section
namespace L2
open PySem PySem.Spec PyProof.Rows PySem.W
section
variable {M:Model} {E:Value->Shared->Prop} {Ar:Around} {s:Shared} {F:Nat->Keyed} {lt:Nat->Nat->Bool} {N:Nat} {κ:SortKind} {X:Array Keyed} {pd:Array (Nat×Nat×Nat)} {la lb tot:List Nat}
def FI (F:Nat->Keyed) (lt:Nat->Nat->Bool) (κ:SortKind) (X:Array Keyed) (pd:Array (Nat×Nat×Nat)) (tot:List Nat) (r:Array Keyed) (st:SortSt):Prop:=∃ o g,r=arK F o/\st=SortSt.mk' κ X pd g none/\o.Pairwise (fun x y=>lt x y=true)/\o.Perm tot
def LI (F:Nat->Keyed) (lt:Nat->Nat->Bool) (κ:SortKind) (X:Array Keyed) (pd:Array (Nat×Nat×Nat)) (tot la lb:List Nat) (L:Nat) (out:Array Keyed) (ia ib:Nat) (st:SortSt):Prop :=
 ∃ o g,out=arK F o/\st=SortSt.mk' κ X pd g none/\L<=o.length/\Mg lt tot o (la.drop ia) (lb.drop ib)/\ia+1 < la.length/\ib < lb.length
def RD (F:Nat->Keyed) (lt:Nat->Nat->Bool) (κ:SortKind) (X:Array Keyed) (pd:Array (Nat×Nat×Nat)) (tot la lb:List Nat) (L:Nat) (c:Option (Array Keyed)) (out:Array Keyed) (ia ib:Nat) (st:SortSt):Prop :=
 (∃ r,c=some r/\FI F lt κ X pd tot r st)\/(c=none/\LI F lt κ X pd tot la lb L out ia ib st)
def RG (F:Nat->Keyed) (lt:Nat->Nat->Bool) (κ:SortKind) (X:Array Keyed) (pd:Array (Nat×Nat×Nat)) (tot la lb:List Nat) (L:Nat):ForInStep CG->SortSt->Prop
 | .done c,st=>RD F lt κ X pd tot la lb L c.1 c.2.1 c.2.2.1 c.2.2.2.1 st
 | .yield c,st=>c.1=none/\LI F lt κ X pd tot la lb L c.2.1 c.2.2.1 c.2.2.2.1 st
theorem BZ {o:List Nat} {ia ib g:Nat} (h:Mg lt tot o (la.drop ia) (lb.drop ib)) (e:la.length<=ia\/lb.length<=ib):FI F lt κ X pd tot (fA (arK F la) (arK F lb) (arK F o) ia ib) (SortSt.mk' κ X pd g none):=by
 refine ⟨o++la.drop ia++lb.drop ib,g,by unfold fA;rw [bH,bH,pW,pW,dR,dR],rfl,?_,by rw [IK];exact h.pm⟩;rcases e with e | e
 ·rw [List.drop_eq_nil_of_le e,Jd];exact h.sb
 ·rw [List.drop_eq_nil_of_le e,Jd];exact h.sa
theorem Dw {o:List Nat} {ia ib g z:Nat} (hz:la[la.length - 1]?=some z) (hz':∀ y∈lb,lt y z=true) (h:Mg lt tot o (la.drop ia) (lb.drop ib)) (e:ia+1=la.length):FI F lt κ X pd tot (fL (arK F la) (arK F lb) (arK F o) ia ib) (SortSt.mk' κ X pd g none):=by
 have ez:la.drop ia=[z]:=by rw [b5 (x:=z) (by rw [<- hz];congr 1;omega),List.drop_eq_nil_of_le (by omega)]
 refine ⟨o++lb.drop ib++la.drop ia,g,by unfold fL;rw [bH,bH,pW,pW,dR,dR],rfl,?_,by rw [IK];exact h.symm.pm⟩;have h2:=h.symm;rw [<- Jd (lb.drop ib)] at h2;refine (h2.left fun y hy w hw=>?_).symm.sa;rw [ez,Iq] at hw;subst hw;exact hz' y (List.mem_of_mem_drop hy)
theorem iL {l S1 S2:List Nat} {i:Nat} (h:l.drop i=S1++S2):l.drop (i+S1.length)=S2:=by rw [<- List.drop_drop,h,KH]
theorem pb {l S1 S2:List Nat} {i:Nat} (h:l.drop i=S1++S2):l.length - i=S1.length+S2.length:=by rw [<- JD,h,Ic]
theorem wZ {l S1 S2:List Nat} {i:Nat} (h:l.drop i=S1++S2):(arK F l).extract i (i+S1.length)=arK F S1:=by rw [qm,h,J4,List.take_left]
theorem xF {o:List Nat} {ia ib mg k k1 x g z L:Nat} (hz:la[la.length - 1]?=some z) (hz':∀ y∈lb,lt y z=true) (h:Mg lt tot o (la.drop ia) (lb.drop ib)) (ha:ia+1 < la.length) (hb:ib < lb.length) (hx:la[ia]?=some x) (q:∀ y∈lb.drop ib,lt x y=true) (hL:L<=o.length+1) :
  wpS M Ar E s (lo4 (arK F la) (arK F lb) (arK F o) ia ib mg k k1) (RG F lt κ X pd tot la lb L) (SortSt.mk' κ X pd g none):=by
 unfold lo4;refine bu hx ?_;rw [eG,bH];have h':Mg lt tot (o++[x]) (la.drop (ia+1)) (lb.drop ib):=by
  rw [b5 hx] at h;exact Mg.left (A1:=[x]) h fun w hw y hy=>by rw [Iq] at hw;subst hw;exact q y hy
 have hL':L<=(o++[x]).length:=by rw [Ic];exact hL
 by_cases c:ia+1+1=la.length
 ·rw [Ip (by rw [c];exact Jr _)];exact IC (.inl ⟨_,rfl,Dw hz hz' h' c⟩)
 ·rw [Im (by rw [IZ];exact c)];split
  ·exact IC (.inr ⟨rfl,_,_,rfl,rfl,hL',h',by dsimp only;omega,hb⟩)
  ·exact IC ⟨rfl,_,_,rfl,rfl,hL',h',by dsimp only;omega,hb⟩
variable (O:Ord lt N) (nd:tot.Nodup) (bd:∀ x∈tot,x < N) (hc:Cmp M Ar E s F lt N κ)
include O nd bd hc
theorem xo {o:List Nat} {ia ib mg k bc y g z L:Nat} (hz:la[la.length - 1]?=some z) (hz':∀ y∈lb,lt y z=true) (h:Mg lt tot o (la.drop ia) (lb.drop ib)) (ha:ia+1 < la.length) (hb:ib < lb.length) (hy:lb[ib]?=some y) (q:∀ x∈la.drop ia,lt y x=true) (hL:L<=o.length+1) :
  wpS M Ar E s (lo3 (arK F la) (arK F lb) (arK F o) ia ib mg k bc) (RG F lt κ X pd tot la lb L) (SortSt.mk' κ X pd g none):=by
 unfold lo3;refine bu hy ?_;rw [eG,bH];have h':Mg lt tot (o++[y]) (la.drop ia) (lb.drop (ib+1)):=by
  rw [b5 hy] at h;exact Mg.right (B1:=[y]) h fun w hw v hv=>by rw [Iq] at hw;subst hw;exact q v hv
 have hL':L<=(o++[y]).length:=by rw [Ic];exact hL
 by_cases c:ib+1=lb.length
 ·rw [Ip (by rw [c];exact Jr _)];exact IC (.inl ⟨_,rfl,BZ h' (.inr (by omega))⟩)
 ·rw [Im (by rw [IZ];exact c)];obtain ⟨x,hx⟩:∃ x,la[ia]?=some x:=⟨_,Ia (by omega)⟩;refine bu hx ?_;have hxm:x∈la.drop ia:=by rw [b5 hx];exact Ik ..
  refine IG (ql (S:=lb.drop (ib+1)) O hc rfl (Jx (by simp)) (by simp) (ID.mp h'.sb).2.1 (fun w hw=>bd _ (h'.inB hw)) (bd _ (h'.inA hxm)) (by omega) fun S1 S2 eS q1 q2=>?_);dsimp only;have q2':∀ w∈S2,lt x w=true:=fun w hw=>by
   have:=q2 w hw;rw [Ip rfl] at this;exact h'.les O nd bd hxm (by rw [eS];exact Ij _ hw) this
  have h2:Mg lt tot (o++[y]++S1) (la.drop ia) (lb.drop (ib+1+S1.length)):=by
   rw [iL eS];rw [eS] at h';refine h'.right ?_;rw [b5 hx] at h' ⊢;exact h'.symm.low O fun w hw=>q1 w hw
  by_cases c2:S1.length > 0
  ·rw [Ip c2,wZ eS,dR];by_cases c3:ib+1+S1.length=lb.length
   ·rw [Ip (by rw [c3];exact Jr _)];exact IC (.inl ⟨_,rfl,BZ h2 (.inr (by omega))⟩)
   ·rw [Im (by rw [IZ];exact c3)];refine xF hz hz' h2 ha ?_ hx (by rw [iL eS];exact q2') (by rw [Ic];omega);have:=pb eS;omega
  ·rw [Im c2];have e0:S1=[]:=IV (by omega);subst e0;exact xF hz hz' h' ha (by omega) hx (by rw [eS];exact q2') (by omega)
theorem Aw {o:List Nat} {ia ib mg ac bc g z L:Nat} (hz:la[la.length - 1]?=some z) (hz':∀ y∈lb,lt y z=true) (h:Mg lt tot o (la.drop ia) (lb.drop ib)) (ha:ia+1 < la.length) (hb:ib < lb.length) (hL:L<=o.length+1) :
  wpS M Ar E s (lo2 (arK F la) (arK F lb) (arK F o) ia ib mg ac bc) (RG F lt κ X pd tot la lb L) (SortSt.mk' κ X pd g none):=by
 unfold lo2;rw [iW];refine IG (Kp ?_);obtain ⟨y,hy⟩:∃ y,lb[ib]?=some y:=⟨_,Ia hb⟩;refine bu hy ?_;have hym:y∈lb.drop ib:=by rw [b5 hy];exact Ik ..
 rw [bH];refine IG (ql (S:=la.drop ia) O hc rfl (Jx (by simp)) (by simp) (ID.mp h.sa).2.1 (fun w hw=>bd _ (h.inA hw)) (bd _ (h.inB hym)) (by omega) fun S1 S2 eS q1 q2=>?_);dsimp only;have q1':∀ w∈S1,lt w y=true:=fun w hw=>by
  have:=q1 w hw;rw [Im IE,Kd] at this;exact h.les O nd bd (by rw [eS];exact IL _ hw) hym this
 have q2':∀ w∈S2,lt y w=true:=fun w hw=>by
  have:=q2 w hw
  rwa [Im IE,Bool.not_eq_false'] at this
 have h2:Mg lt tot (o++S1) (la.drop (ia+S1.length)) (lb.drop ib):=by
  rw [iL eS];rw [eS] at h;refine h.left ?_;rw [b5 hy] at h ⊢;exact h.low O q1'
 have hl:=pb eS;by_cases c2:S1.length > 0
 ·rw [Ip c2,wZ eS,dR];by_cases c3:ia+S1.length+1=la.length
  ·rw [Ip (by rw [c3];exact Jr _)];exact IC (.inl ⟨_,rfl,Dw hz hz' h2 c3⟩)
  ·rw [Im (by rw [IZ];exact c3)];by_cases c4:ia+S1.length=la.length
   ·rw [Ip (by rw [c4];exact Jr _)];exact IC (.inl ⟨_,rfl,BZ h2 (.inl (by omega))⟩)
   ·rw [Im (by rw [IZ];exact c4)];exact xo O nd bd hc hz hz' h2 (by omega) hb hy (by rw [iL eS];exact q2') (by rw [Ic];omega)
 ·rw [Im c2];have e0:S1=[]:=IV (by omega);subst e0;exact xo O nd bd hc hz hz' h ha hb hy (by rw [eS];exact q2') hL
theorem BE {o:List Nat} {ia ib mg ac bc g z L:Nat} (hz:la[la.length - 1]?=some z) (hz':∀ y∈lb,lt y z=true) (h:Mg lt tot o (la.drop ia) (lb.drop ib)) (ha:ia+1 < la.length) (hb:ib < lb.length) (hL:L<=o.length+1) :
  wpS M Ar E s (lo1 (arK F la) (arK F lb) mg (none,arK F o,ia,ib,ac,bc)) (fun r st=>(∃ c,r=.done c/\RD F lt κ X pd tot la lb L c.1 c.2.1 c.2.2.1 c.2.2.2.1 st)\/∃ c,r=.yield c/\c.1=none/\LI F lt κ X pd tot la lb L c.2.1 c.2.2.1 c.2.2.2.1 st) (SortSt.mk' κ X pd g none):=by
 unfold lo1;obtain ⟨y,hy⟩:∃ y,lb[ib]?=some y:=⟨_,Ia hb⟩;obtain ⟨x,hx⟩:∃ x,la[ia]?=some x:=⟨_,Ia (by omega)⟩;have hxm:x∈la.drop ia:=by rw [b5 hx];exact Ik ..
 have hym:y∈lb.drop ib:=by rw [b5 hy];exact Ik ..
 dsimp only;refine bu hy (bu hx (IG (hc _ _ _ _ rfl (bd _ (h.inB hym)) (bd _ (h.inA hxm)) ?_)));dsimp only;cases e:lt y x with
 | true =>
  rw [Ip rfl];refine bu hy ?_;rw [eG,bH];have h':Mg lt tot (o++[y]) (la.drop ia) (lb.drop (ib+1)):=by
   rw [b5 hy] at h;refine Mg.right (B1:=[y]) h ?_;rw [b5 hx] at h ⊢;exact h.vX O e
  have hL':L<=(o++[y]).length:=by rw [Ic];exact hL
  by_cases c:ib+1=lb.length
  ·rw [Ip (by rw [c];exact Jr _)];exact IC (.inl ⟨_,rfl,.inl ⟨_,rfl,BZ h' (.inr (by omega))⟩⟩)
  ·rw [Im (by rw [IZ];exact c)];split
   ·exact IC (.inl ⟨_,rfl,.inr ⟨rfl,_,_,rfl,rfl,hL',h',ha,by dsimp only;omega⟩⟩)
   ·exact IC (.inr ⟨_,rfl,rfl,_,_,rfl,rfl,hL',h',ha,by dsimp only;omega⟩)
 | false =>
  rw [Im IE];refine bu hx ?_;rw [eG,bH];have e':=h.les O nd bd hxm hym e;have h':Mg lt tot (o++[x]) (la.drop (ia+1)) (lb.drop ib):=by
   rw [b5 hx] at h;refine Mg.left (A1:=[x]) h ?_;rw [b5 hy] at h ⊢;exact h.symm.vX O e'
  have hL':L<=(o++[x]).length:=by rw [Ic];exact hL
  by_cases c:ia+1+1=la.length
  ·rw [Ip (by rw [c];exact Jr _)];exact IC (.inl ⟨_,rfl,.inl ⟨_,rfl,Dw hz hz' h' c⟩⟩)
  ·rw [Im (by rw [IZ];exact c)];split
   ·exact IC (.inl ⟨_,rfl,.inr ⟨rfl,_,_,rfl,rfl,hL',h',by dsimp only;omega,hb⟩⟩)
   ·exact IC (.inr ⟨_,rfl,rfl,_,_,rfl,rfl,hL',h',by dsimp only;omega,hb⟩)
theorem uv {g z y:Nat} {B:List Nat} {Q:Array Keyed->SortSt->Prop} (hz:la[la.length - 1]?=some z) (hz':∀ y∈lb,lt y z=true) (hy:lb=y :: B) (hy':∀ x∈la,lt y x=true) (sa:la.Pairwise fun x y=>lt x y=true) (sb:lb.Pairwise fun x y=>lt x y=true) (et:tot=la++lb)
  (h:∀ r st,FI F lt κ X pd tot r st->Q r st):wpS M Ar E s (lu (arK F la) (arK F lb)) Q (SortSt.mk' κ X pd g none):=by
 have hal:1<=la.length:=by
  rcases Nat.eq_zero_or_pos la.length with e | e
  ·rw [IV e] at hz;cases hz
  ·exact e
 have hbl:lb.length=B.length+1:=by rw [hy];rfl
 have hl:tot.length=la.length+lb.length:=by rw [et,Ic]
 have h0:Mg lt tot [y] (la.drop 0) (lb.drop 1):=by
  have m0:Mg lt tot [] la (y :: B):=⟨sa,by rw [<- hy];exact sb,by rw [<- hy,<-et];exact J6 _⟩;rw [hy];exact Mg.right (B1:=[y]) m0 fun w hw x hx=>by rw [Iq] at hw;subst hw;exact hy' x hx
 rw [oD];refine IG (wpS_lift (JK ⟨rfl,?_⟩));refine bu (x:=y) (by rw [hy];rfl) ?_;rw [show (#[F y]:Array Keyed)=arK F [y] from rfl,bH,bH];by_cases c:1=lb.length
 ·rw [Ip (by rw [<- c];rfl)];exact IC (h _ _ (BZ h0 (.inr (by omega))))
 rw [Im (by rw [IZ];exact c)];by_cases c:0+1=la.length
 ·rw [Ip (by rw [<- c];rfl)];exact IC (h _ _ (Dw hz hz' h0 c))
 rw [Im (by rw [IZ];exact c)];refine IG (K0 ?_);refine IG (JM (Ju (I:=fun i (c:Option (Array Keyed)×Array Keyed×Nat×Nat×Nat) st=>c.1=none/\LI F lt κ X pd tot la lb (i+1) c.2.1 c.2.2.1 c.2.2.2.1 st) (Q:=fun (c:Option (Array Keyed)×Array Keyed×Nat×Nat×Nat) st=>∃ r,c.1=some r/\FI F lt κ X pd tot r st) ?_ ?_ ⟨rfl,[y],_,rfl,rfl,Iv _,h0,by dsimp only;omega,by dsimp only;omega⟩) ?_)
 ·rintro i ⟨r,out,ia,ib,mg⟩ st _ hi ⟨e,o,g,e1,rfl,hL,hM,ha,hb⟩;dsimp only at e e1 hM ha hb ⊢;subst e e1;refine IG (JM (Ju (I:=fun j (c:CL) st=>c.1=none/\LI F lt κ X pd tot la lb (i+1+min j 1) c.2.1 c.2.2.1 c.2.2.2.1 st) (Q:=fun (c:CL) st=>RD F lt κ X pd tot la lb (i+2) c.1 c.2.1 c.2.2.1 c.2.2.2.1 st) ?_ ?_ ⟨rfl,o,_,rfl,rfl,hL,hM,ha,hb⟩) ?_)
  ·rintro j ⟨r,out,ia,ib,ac,bc⟩ st _ hj ⟨e,o,g,e1,rfl,hL,hM,ha,hb⟩;dsimp only at e e1 hM ha hb hL ⊢;subst e e1;refine JM (BE O nd bd hc (L:=i+2) hz hz' hM ha hb (by omega)) ?_;rintro r st (⟨c,rfl,q⟩ | ⟨c,rfl,e,o,g,q1,q2,q3,q4⟩)
   ·exact q
   ·exact ⟨e,o,g,q1,q2,by omega,q4⟩
  ·rintro ⟨r,out,ia,ib,ac,bc⟩ st ⟨e,o,g,q1,q2,q3,q4⟩;exact .inr ⟨e,o,g,q1,q2,by omega,q4⟩
  ·rintro ⟨r,out,ia,ib,ac,bc⟩ st (⟨r,e,q⟩ | ⟨e,o,g,e1,rfl,hL,hM,ha,hb⟩)
   ·dsimp only at e ⊢;subst e;exact IC ⟨r,rfl,q⟩
   dsimp only at e e1 hM ha hb hL ⊢;subst e e1;refine IG (wpS_lift (JK ⟨rfl,?_⟩));refine IG (JM (Ju (I:=fun j (c:CG) st=>c.1=none/\LI F lt κ X pd tot la lb (i+2) c.2.1 c.2.2.1 c.2.2.2.1 st) (Q:=fun (c:CG) st=>RD F lt κ X pd tot la lb (i+2) c.1 c.2.1 c.2.2.1 c.2.2.2.1 st) ?_ ?_ ⟨rfl,o,_,rfl,rfl,hL,hM,ha,hb⟩) ?_)
   ·rintro j ⟨r,out,ia,ib,mg,ac,bc⟩ st _ hj ⟨e,o,g,e1,rfl,hL,hM,ha,hb⟩;dsimp only at e e1 hM ha hb hL ⊢;subst e e1;split
    all_goals
     refine JM (Aw O nd bd hc (L:=i+2) hz hz' hM ha hb (by omega)) ?_;rintro (c | c) st q
     ·exact q
     ·exact q
   ·rintro ⟨r,out,ia,ib,mg,ac,bc⟩ st ⟨e,q⟩;exact .inr ⟨e,q⟩
   ·rintro ⟨r,out,ia,ib,mg,ac,bc⟩ st (⟨r,e,q⟩ | ⟨e,o,g,e1,rfl,hL,hM,ha,hb⟩)
    ·dsimp only at e ⊢;subst e;exact IC ⟨r,rfl,q⟩
    dsimp only at e e1 hM ha hb hL ⊢;subst e e1;rw [iW];exact IG (Kp (IC ⟨rfl,o,_,rfl,rfl,hL,hM,ha,hb⟩))
 ·rintro ⟨r,out,ia,ib,mg⟩ st ⟨e,o,g,e1,rfl,hL,hM,ha,hb⟩;exfalso;have:=hM.len;rw [JD,JD] at this;dsimp only at this ha hb;omega
 ·rintro ⟨r,out,ia,ib,mg⟩ st ⟨r,e,q⟩;dsimp only at e ⊢;subst e;exact IC (h _ _ q)
end
end L2
end
section
namespace L2
open PySem PySem.Spec PyProof.Rows PySem.W
def lE:Array Keyed->Array Keyed->StateT SortSt Sem (Array Keyed):=sortPriv% PySem.Builtin.mergeHi
abbrev DL:=Option (Array Keyed)×Nat×Nat×Array Keyed×Nat×Nat
abbrev DG:=Option (Array Keyed)×Nat×Nat×Array Keyed×Nat×Nat×Nat
abbrev gA (a b out:Array Keyed) (na nb:Nat):=a.extract 0 na++b.extract 0 nb++out.reverse
abbrev gB (a b out:Array Keyed) (na nb:Nat):=b.extract 0 nb++a.extract 0 na++out.reverse
def hi1 (a b:Array Keyed) (mg:Nat) (c:DL):StateT SortSt Sem (ForInStep DL):=do
 let some aWins<-lt' (<- elem' b (c.2.2.1 - 1)) (<- elem' a (c.2.1 - 1)) | return .done (some (gA a b c.2.2.2.1 c.2.1 c.2.2.1),c.2)
 if aWins then
  let x<-elem' a (c.2.1 - 1)
  if c.2.1 - 1==0 then return .done (some (gA a b (c.2.2.2.1.push x) (c.2.1 - 1) c.2.2.1),c.2.1 - 1,c.2.2.1,c.2.2.2.1.push x,c.2.2.2.2.1+1,0)
  if c.2.2.2.2.1+1>=mg then return .done (none,c.2.1 - 1,c.2.2.1,c.2.2.2.1.push x,c.2.2.2.2.1+1,0)
  return .yield (none,c.2.1 - 1,c.2.2.1,c.2.2.2.1.push x,c.2.2.2.2.1+1,0)
 else
  let x<-elem' b (c.2.2.1 - 1)
  if c.2.2.1 - 1==1 then return .done (some (gB a b (c.2.2.2.1.push x) c.2.1 (c.2.2.1 - 1)),c.2.1,c.2.2.1 - 1,c.2.2.2.1.push x,0,c.2.2.2.2.2+1)
  if c.2.2.2.2.2+1>=mg then return .done (none,c.2.1,c.2.2.1 - 1,c.2.2.2.1.push x,0,c.2.2.2.2.2+1)
  return .yield (none,c.2.1,c.2.2.1 - 1,c.2.2.2.1.push x,0,c.2.2.2.2.2+1)
def hi4 (a b out:Array Keyed) (na nb mg k k1:Nat):StateT SortSt Sem (ForInStep DG):=do
 let x<-elem' a (na - 1)
 if na - 1==0 then return .done (some (gA a b (out.push x) (na - 1) nb),na - 1,nb,out.push x,mg,k,k1)
 if k < 7&&k1 < 7 then return .done (none,na - 1,nb,out.push x,mg,k,k1)
 return .yield (none,na - 1,nb,out.push x,mg,k,k1)
def hi3 (a b out:Array Keyed) (na nb mg k bc:Nat):StateT SortSt Sem (ForInStep DG):=do
 let x<-elem' b (nb - 1)
 if nb - 1==1 then return .done (some (gB a b (out.push x) na (nb - 1)),na,nb - 1,out.push x,mg,k,bc)
 let some k1<-fC true (<- elem' a (na - 1)) b 0 (nb - 1) (nb - 1 - 1) | return .done (some (gA a b (out.push x) na (nb - 1)),na,nb - 1,out.push x,mg,k,bc)
 if nb - 1 - k1 > 0 then
  if k1==1 then return .done (some (gB a b (out.push x++(b.extract k1 (nb - 1)).reverse) na k1),na,k1,out.push x++(b.extract k1 (nb - 1)).reverse,mg,k,nb - 1 - k1)
  else
   if k1==0 then return .done (some (gA a b (out.push x++(b.extract k1 (nb - 1)).reverse) na k1),na,k1,out.push x++(b.extract k1 (nb - 1)).reverse,mg,k,nb - 1 - k1)
   else hi4 a b (out.push x++(b.extract k1 (nb - 1)).reverse) na k1 mg k (nb - 1 - k1)
 else hi4 a b (out.push x) na (nb - 1) mg k (nb - 1 - k1)
def hi2 (a b out:Array Keyed) (na nb mg ac bc:Nat):StateT SortSt Sem (ForInStep DG):=do
 uD mg
 let some k<-fC false (<- elem' b (nb - 1)) a 0 na (na - 1) | return .done (some (gA a b out na nb),na,nb,out,mg,ac,bc)
 if na - k > 0 then
  if k==0 then return .done (some (gA a b (out++(a.extract k na).reverse) k nb),k,nb,out++(a.extract k na).reverse,mg,na - k,bc)
  else hi3 a b (out++(a.extract k na).reverse) k nb mg (na - k) bc
 else hi3 a b out na nb mg (na - k) bc
theorem nz (a b:Array Keyed):lE a b=(do
 rule "list.sort.merge-hi"
 let x<-elem' a (a.size - 1)
 if a.size - 1==0 then return gA a b #[x] (a.size - 1) b.size
 if b.size==1 then return gB a b #[x] (a.size - 1) b.size
 let st<-get
 let r<-forIn [0:a.size+b.size] ((none,a.size - 1,b.size,#[x],gallopOf st):Option (Array Keyed)×Nat×Nat×Array Keyed×Nat) fun _ c=>do
  let d<-forIn [0:a.size+b.size] ((none,c.2.1,c.2.2.1,c.2.2.2.1,0,0):DL) fun _ c'=>hi1 a b c.2.2.2.2 c'
  match d.1 with
  | some r=>pure (.done (some r,d.2.1,d.2.2.1,d.2.2.2.1,c.2.2.2.2))
  | none=>do
   rule "list.sort.gallop"
   let e<-forIn [0:a.size+b.size] ((none,d.2.1,d.2.2.1,d.2.2.2.1,c.2.2.2.2+1,d.2.2.2.2.1,d.2.2.2.2.2):DG) fun _ c' =>
    if c'.2.2.2.2.1 > 1 then hi2 a b c'.2.2.2.1 c'.2.1 c'.2.2.1 (c'.2.2.2.2.1 - 1) c'.2.2.2.2.2.1 c'.2.2.2.2.2.2
    else hi2 a b c'.2.2.2.1 c'.2.1 c'.2.2.1 c'.2.2.2.2.1 c'.2.2.2.2.2.1 c'.2.2.2.2.2.2
   match e.1 with
   | some r=>pure (.done (some r,e.2.1,e.2.2.1,e.2.2.2.1,e.2.2.2.2.1))
   | none=>do
    uD (e.2.2.2.2.1+1)
    pure (.yield (none,e.2.1,e.2.2.1,e.2.2.2.1,e.2.2.2.2.1+1))
 match r.1 with
 | some r=>pure r
 | none=>unsupported "internal:list.sort.merge-bound"):=by
 unfold lE;refine bindC rfl fun _=>?_;dsimp only;refine Ke fun x=>?_;congr 1;congr 1;refine Ke fun st=>?_;have:∀ {α β:Type} {m m':StateT SortSt Sem α} {f f':α->StateT SortSt Sem β},m=m'->f=f'->(m>>=f)=(m'>>=f'):=by rintro _ _ _ _ _ _ rfl rfl;rfl
 refine this ?_ ?_
 ·congr 1;funext _ c;refine this ?_ ?_
  ·congr 1
  ·funext d;cases d.1 with
   | some=>rfl
   | none =>
    dsimp only;refine Ke fun _=>?_;refine this ?_ ?_
    ·congr 1
    ·funext d;cases d.1 <;> rfl
 ·funext r;cases r.1 <;> rfl
end L2
end
section
namespace L2
open PySem PySem.Spec PyProof.Rows PySem.W
section
variable {M:Model} {E:Value->Shared->Prop} {Ar:Around} {s:Shared} {F:Nat->Keyed} {lt:Nat->Nat->Bool} {N:Nat} {κ:SortKind} {X:Array Keyed} {pd:Array (Nat×Nat×Nat)} {la lb tot:List Nat}
theorem Ord.flip (O:Ord lt N):Ord (fun x y=>lt y x) N:=⟨O.irr,fun i j k a b=>O.tr _ _ _ b a,fun i j hi hj hn e=>O.tot j i hj hi (Ne.symm hn) e⟩
abbrev tkR (l:List Nat) (n:Nat):List Nat:=(l.take n).reverse
theorem iD {l:List Nat} {n x:Nat} (hn:0 < n) (h:l[n - 1]?=some x):tkR l n=x :: tkR l (n - 1):=by
 obtain ⟨m,rfl⟩:∃ m,n=m+1:=⟨n - 1,by omega⟩;rw [Nat.add_sub_cancel] at h ⊢;obtain ⟨hi,e⟩:=Ie.mp h;unfold tkR;rw [List.take_add_one,h,List.reverse_append];rfl
theorem uj {l:List Nat} {n:Nat} (h:n<=l.length):(tkR l n).length=n:=by rw [KA,Jh];omega
theorem lx {l S1 S2:List Nat} {n:Nat} (h:l.take n=S1++S2):l.take S1.length=S1:=by
 have:(l.take n).take S1.length=S1:=by rw [h,List.take_left]
 rw [List.take_take] at this;have e:S1.length<=n:=by
  have h2:=congrArg List.length h;rw [Jh,Ic] at h2;omega
 rwa [Nat.min_eq_left e] at this
theorem nA {l S1 S2:List Nat} {n:Nat} (h:l.take n=S1++S2):tkR l n=S2.reverse++tkR l S1.length:=by
 unfold tkR;rw [lx h,h,List.reverse_append]
theorem wN {l S1 S2:List Nat} {n:Nat} (h:l.take n=S1++S2):((arK F l).extract S1.length n).reverse=arK F S2.reverse:=by
 rw [qm,<-List.drop_take,h,KH,sO]
def HI (F:Nat->Keyed) (lt:Nat->Nat->Bool) (κ:SortKind) (X:Array Keyed) (pd:Array (Nat×Nat×Nat)) (tot la lb:List Nat) (L:Nat) (out:Array Keyed) (na nb:Nat) (st:SortSt):Prop :=
 ∃ o g,out=arK F o/\st=SortSt.mk' κ X pd g none/\L<=o.length/\Mg (fun x y=>lt y x) tot o (tkR la na) (tkR lb nb)/\(0 < na/\na<=la.length)/\1 < nb/\nb<=lb.length
def HD (F:Nat->Keyed) (lt:Nat->Nat->Bool) (κ:SortKind) (X:Array Keyed) (pd:Array (Nat×Nat×Nat)) (tot la lb:List Nat) (L:Nat) (c:Option (Array Keyed)) (out:Array Keyed) (na nb:Nat) (st:SortSt):Prop :=
 (∃ r,c=some r/\FI F lt κ X pd tot r st)\/(c=none/\HI F lt κ X pd tot la lb L out na nb st)
def HG (F:Nat->Keyed) (lt:Nat->Nat->Bool) (κ:SortKind) (X:Array Keyed) (pd:Array (Nat×Nat×Nat)) (tot la lb:List Nat) (L:Nat):ForInStep DG->SortSt->Prop
 | .done c,st=>HD F lt κ X pd tot la lb L c.1 c.2.2.2.1 c.2.1 c.2.2.1 st
 | .yield c,st=>c.1=none/\HI F lt κ X pd tot la lb L c.2.2.2.1 c.2.1 c.2.2.1 st
theorem xp {o A B:List Nat}:(A++B++o.reverse).Perm (o++(A.reverse++B.reverse)) :=
 List.perm_append_comm.trans (List.Perm.append (Kt _) (List.Perm.append (Kt _).symm (Kt _).symm))
theorem xJ {o A:List Nat} (h:(o++A.reverse).Pairwise fun x y=>lt y x=true):(A++o.reverse).Pairwise fun x y=>lt x y=true:=by
 have:=JZ.mpr h
 rwa [List.reverse_append,List.reverse_reverse] at this
theorem ux {o:List Nat} {na nb g:Nat} (h:Mg (fun x y=>lt y x) tot o (tkR la na) (tkR lb nb)) (e:na=0\/nb=0):FI F lt κ X pd tot (gA (arK F la) (arK F lb) (arK F o) na nb) (SortSt.mk' κ X pd g none):=by
 refine ⟨la.take na++lb.take nb++o.reverse,g,by unfold gA;rw [pB,pB,sO,dR,dR],rfl,?_,xp.trans h.pm⟩;rcases e with rfl | rfl
 ·rw [List.take_zero,List.nil_append];exact xJ h.sb
 ·rw [List.take_zero,Jd];exact xJ h.sa
theorem wa {o:List Nat} {na nb g y:Nat} (hy:lb[0]?=some y) (hy':∀ x∈la,lt y x=true) (h:Mg (fun x y=>lt y x) tot o (tkR la na) (tkR lb nb)) (e:nb=1):FI F lt κ X pd tot (gB (arK F la) (arK F lb) (arK F o) na nb) (SortSt.mk' κ X pd g none):=by
 subst e;have ey:tkR lb 1=[y]:=by rw [iD Nat.one_pos hy];unfold tkR;rfl
 refine ⟨lb.take 1++la.take na++o.reverse,g,by unfold gB;rw [pB,pB,sO,dR,dR],rfl,?_,xp.trans h.symm.pm⟩;rw [<- Jd (tkR la na)] at h
 have h2:=(h.left fun x hx w hw=>by
  rw [ey,Iq] at hw;subst hw
  exact hy' x (List.mem_of_mem_take (JX.mp hx))).sb
 have:=JZ.mpr h2;unfold tkR at this;simpa only [List.reverse_append,List.reverse_reverse,IK] using this
theorem wI {o:List Nat} {na nb mg k k1 x g L:Nat} (h:Mg (fun x y=>lt y x) tot o (tkR la na) (tkR lb nb)) (ha:0 < na/\na<=la.length) (hb:1 < nb/\nb<=lb.length) (hx:la[na - 1]?=some x) (q:∀ y∈tkR lb nb,lt y x=true) (hL:L<=o.length+1) :
  wpS M Ar E s (hi4 (arK F la) (arK F lb) (arK F o) na nb mg k k1) (HG F lt κ X pd tot la lb L) (SortSt.mk' κ X pd g none):=by
 unfold hi4;refine bu hx ?_;rw [eG];have h':Mg (fun x y=>lt y x) tot (o++[x]) (tkR la (na - 1)) (tkR lb nb):=by
  rw [iD ha.1 hx] at h;exact Mg.left (A1:=[x]) h fun w hw y hy=>by rw [Iq] at hw;subst hw;exact q y hy
 have hL':L<=(o++[x]).length:=by rw [Ic];exact hL
 by_cases c:na - 1=0
 ·rw [Ip (by rw [c];rfl)];exact IC (.inl ⟨_,rfl,ux h' (.inl c)⟩)
 ·rw [Im (by rw [IZ];exact c)];split
  ·exact IC (.inr ⟨rfl,_,_,rfl,rfl,hL',h',by dsimp only;omega,hb⟩)
  ·exact IC ⟨rfl,_,_,rfl,rfl,hL',h',by dsimp only;omega,hb⟩
variable (O:Ord lt N) (nd:tot.Nodup) (bd:∀ x∈tot,x < N) (hc:Cmp M Ar E s F lt N κ)
include O nd bd hc
theorem wL {o:List Nat} {na nb mg k bc y y0 g L:Nat} (hy0:lb[0]?=some y0) (hy0':∀ x∈la,lt y0 x=true) (h:Mg (fun x y=>lt y x) tot o (tkR la na) (tkR lb nb)) (ha:0 < na/\na<=la.length) (hb:1 < nb/\nb<=lb.length) (hy:lb[nb - 1]?=some y) (q:∀ x∈tkR la na,lt x y=true) (hL:L<=o.length+1) :
  wpS M Ar E s (hi3 (arK F la) (arK F lb) (arK F o) na nb mg k bc) (HG F lt κ X pd tot la lb L) (SortSt.mk' κ X pd g none):=by
 unfold hi3;refine bu hy ?_;rw [eG];have h':Mg (fun x y=>lt y x) tot (o++[y]) (tkR la na) (tkR lb (nb - 1)):=by
  rw [iD (by omega) hy] at h;exact Mg.right (B1:=[y]) h fun w hw v hv=>by rw [Iq] at hw;subst hw;exact q v hv
 have hL':L<=(o++[y]).length:=by rw [Ic];exact hL
 by_cases c:nb - 1=1
 ·rw [Ip (by rw [c];rfl)];exact IC (.inl ⟨_,rfl,wa hy0 hy0' h' c⟩)
 ·rw [Im (by rw [IZ];exact c)];obtain ⟨x,hx⟩:∃ x,la[na - 1]?=some x:=⟨_,Ia (by omega)⟩;refine bu hx ?_;have ex:=iD ha.1 hx;have hxm:x∈tkR la na:=by rw [ex];exact Ik ..
  have sb:=(ID.mp h'.sb).2.1;refine IG (ql (S:=lb.take (nb - 1)) O hc rfl (by rw [KG]) (by rw [Jh];omega) (by have:=JZ.mpr sb;unfold tkR at this;rwa [List.reverse_reverse] at this) (fun w hw=>bd _ (h'.inB (JX.mpr hw))) (bd _ (h'.inA hxm)) (by omega) fun S1 S2 eS q1 q2=>?_);dsimp only;have hl:S1.length+S2.length=nb - 1:=by rw [<- Ic,<-eS,Jh];omega
  have q2':∀ w∈S2.reverse,lt x w=true:=fun w hw=>by
   have:=q2 w (JX.mp hw);rw [Ip rfl] at this;exact Mg.les (lt:=fun x y=>lt y x) O.flip nd bd h'.symm (by rw [nA eS];exact IL _ hw) hxm this
  have h2:Mg (fun x y=>lt y x) tot (o++[y]++S2.reverse) (tkR la na) (tkR lb S1.length):=by
   rw [nA eS] at h';refine h'.right ?_;rw [ex] at h' ⊢;exact h'.symm.low O.flip fun w hw=>q2' w hw
  have q1':∀ w∈tkR lb S1.length,lt w x=true:=fun w hw=>by
   unfold tkR at hw;rw [lx eS,JX] at hw;exact q1 w hw
  by_cases c2:nb - 1 - S1.length > 0
  ·rw [Ip c2,wN eS,dR];by_cases c3:S1.length=1
   ·rw [Ip (by rw [c3];rfl)];exact IC (.inl ⟨_,rfl,wa hy0 hy0' h2 c3⟩)
   ·rw [Im (by rw [IZ];exact c3)];by_cases c4:S1.length=0
    ·rw [Ip (by rw [c4];rfl)];exact IC (.inl ⟨_,rfl,ux h2 (.inr c4)⟩)
    ·rw [Im (by rw [IZ];exact c4)];exact wI h2 ha (by omega) hx q1' (by rw [Ic];omega)
  ·rw [Im c2];have e0:S1.length=nb - 1:=by omega
   rw [e0] at q1';exact wI h' ha (by omega) hx q1' (by omega)
theorem Bp {o:List Nat} {na nb mg ac bc y0 g L:Nat} (hy0:lb[0]?=some y0) (hy0':∀ x∈la,lt y0 x=true) (h:Mg (fun x y=>lt y x) tot o (tkR la na) (tkR lb nb)) (ha:0 < na/\na<=la.length) (hb:1 < nb/\nb<=lb.length) (hL:L<=o.length+1) :
  wpS M Ar E s (hi2 (arK F la) (arK F lb) (arK F o) na nb mg ac bc) (HG F lt κ X pd tot la lb L) (SortSt.mk' κ X pd g none):=by
 unfold hi2;rw [iW];refine IG (Kp ?_);obtain ⟨y,hy⟩:∃ y,lb[nb - 1]?=some y:=⟨_,Ia (by omega)⟩;refine bu hy ?_;have ey:=iD (by omega) hy;have hym:y∈tkR lb nb:=by rw [ey];exact Ik ..
 have sa:=(ID.mp h.sa).2.1;refine IG (ql (S:=la.take na) O hc rfl (by rw [KG]) (by rw [Jh];omega) (by have:=JZ.mpr sa;unfold tkR at this;rwa [List.reverse_reverse] at this) (fun w hw=>bd _ (h.inA (JX.mpr hw))) (bd _ (h.inB hym)) (by omega) fun S1 S2 eS q1 q2=>?_);dsimp only;have hl:S1.length+S2.length=na:=by rw [<- Ic,<-eS,Jh];omega
 have q1':∀ w∈tkR la S1.length,lt w y=true:=fun w hw=>by
  unfold tkR at hw;rw [lx eS,JX] at hw;have:=q1 w hw;rw [Im IE,Kd] at this;exact Mg.les (lt:=fun x y=>lt y x) O.flip nd bd h.symm hym (by rw [JX,eS];exact IL _ hw) this
 have q2':∀ w∈S2.reverse,lt y w=true:=fun w hw=>by
  have:=q2 w (JX.mp hw)
  rwa [Im IE,Bool.not_eq_false'] at this
 have h2:Mg (fun x y=>lt y x) tot (o++S2.reverse) (tkR la S1.length) (tkR lb nb):=by
  rw [nA eS] at h;refine h.left ?_;rw [ey] at h ⊢;exact h.low O.flip q2'
 by_cases c2:na - S1.length > 0
 ·rw [Ip c2,wN eS,dR];by_cases c3:S1.length=0
  ·rw [Ip (by rw [c3];rfl)];exact IC (.inl ⟨_,rfl,ux h2 (.inl c3)⟩)
  ·rw [Im (by rw [IZ];exact c3)];exact wL O nd bd hc hy0 hy0' h2 (by omega) hb hy q1' (by rw [Ic];omega)
 ·rw [Im c2];have e0:S1.length=na:=by omega
  rw [e0] at q1';exact wL O nd bd hc hy0 hy0' h ha hb hy q1' hL
theorem Dd {o:List Nat} {na nb mg ac bc y0 g L:Nat} (hy0:lb[0]?=some y0) (hy0':∀ x∈la,lt y0 x=true) (h:Mg (fun x y=>lt y x) tot o (tkR la na) (tkR lb nb)) (ha:0 < na/\na<=la.length) (hb:1 < nb/\nb<=lb.length) (hL:L<=o.length+1) :
  wpS M Ar E s (hi1 (arK F la) (arK F lb) mg (none,na,nb,arK F o,ac,bc)) (fun r st=>(∃ c,r=.done c/\HD F lt κ X pd tot la lb L c.1 c.2.2.2.1 c.2.1 c.2.2.1 st)\/∃ c,r=.yield c/\c.1=none/\HI F lt κ X pd tot la lb L c.2.2.2.1 c.2.1 c.2.2.1 st) (SortSt.mk' κ X pd g none):=by
 unfold hi1;obtain ⟨y,hy⟩:∃ y,lb[nb - 1]?=some y:=⟨_,Ia (by omega)⟩;obtain ⟨x,hx⟩:∃ x,la[na - 1]?=some x:=⟨_,Ia (by omega)⟩;have ex:=iD ha.1 hx;have ey:=iD (by omega) hy;have hxm:x∈tkR la na:=by rw [ex];exact Ik ..
 have hym:y∈tkR lb nb:=by rw [ey];exact Ik ..
 dsimp only;refine bu hy (bu hx (IG (hc _ _ _ _ rfl (bd _ (h.inB hym)) (bd _ (h.inA hxm)) ?_)));dsimp only;cases e:lt y x with
 | true =>
  rw [Ip rfl];refine bu hx ?_;rw [eG];have h':Mg (fun x y=>lt y x) tot (o++[x]) (tkR la (na - 1)) (tkR lb nb):=by
   rw [ex] at h;refine Mg.left (A1:=[x]) h ?_;rw [ey] at h ⊢;exact h.symm.vX O.flip e
  have hL':L<=(o++[x]).length:=by rw [Ic];exact hL
  by_cases c:na - 1=0
  ·rw [Ip (by rw [c];rfl)];exact IC (.inl ⟨_,rfl,.inl ⟨_,rfl,ux h' (.inl c)⟩⟩)
  ·rw [Im (by rw [IZ];exact c)];split
   ·exact IC (.inl ⟨_,rfl,.inr ⟨rfl,_,_,rfl,rfl,hL',h',by dsimp only;omega,hb⟩⟩)
   ·exact IC (.inr ⟨_,rfl,rfl,_,_,rfl,rfl,hL',h',by dsimp only;omega,hb⟩)
 | false =>
  rw [Im IE];refine bu hy ?_;rw [eG];have e':=Mg.les (lt:=fun x y=>lt y x) O.flip nd bd h.symm hym hxm e;have h':Mg (fun x y=>lt y x) tot (o++[y]) (tkR la na) (tkR lb (nb - 1)):=by
   rw [ey] at h;refine Mg.right (B1:=[y]) h ?_;rw [ex] at h ⊢;exact h.vX O.flip e'
  have hL':L<=(o++[y]).length:=by rw [Ic];exact hL
  by_cases c:nb - 1=1
  ·rw [Ip (by rw [c];rfl)];exact IC (.inl ⟨_,rfl,.inl ⟨_,rfl,wa hy0 hy0' h' c⟩⟩)
  ·rw [Im (by rw [IZ];exact c)];split
   ·exact IC (.inl ⟨_,rfl,.inr ⟨rfl,_,_,rfl,rfl,hL',h',ha,by dsimp only;omega⟩⟩)
   ·exact IC (.inr ⟨_,rfl,rfl,_,_,rfl,rfl,hL',h',ha,by dsimp only;omega⟩)
theorem ui {g z y0:Nat} {Q:Array Keyed->SortSt->Prop} (hz:la[la.length - 1]?=some z) (hz':∀ y∈lb,lt y z=true) (hy0:lb[0]?=some y0) (hy0':∀ x∈la,lt y0 x=true) (sa:la.Pairwise fun x y=>lt x y=true) (sb:lb.Pairwise fun x y=>lt x y=true) (et:tot=la++lb)
  (h:∀ r st,FI F lt κ X pd tot r st->Q r st):wpS M Ar E s (lE (arK F la) (arK F lb)) Q (SortSt.mk' κ X pd g none):=by
 have hal:1<=la.length:=by
  rcases Nat.eq_zero_or_pos la.length with e | e
  ·rw [IV e] at hz;cases hz
  ·exact e
 have hbl:1<=lb.length:=by
  rcases Nat.eq_zero_or_pos lb.length with e | e
  ·rw [IV e] at hy0;cases hy0
  ·exact e
 have hl:tot.length=la.length+lb.length:=by rw [et,Ic]
 have h0:Mg (fun x y=>lt y x) tot [z] (tkR la (la.length - 1)) (tkR lb lb.length):=by
  have m0:Mg (fun x y=>lt y x) tot [] (tkR la la.length) (tkR lb lb.length):=by
   unfold tkR;rw [JV,JV];exact ⟨JZ.mpr sa,JZ.mpr sb,by rw [et,List.nil_append];exact List.Perm.append (Kt _) (Kt _)⟩
  rw [iD hal hz] at m0;refine Mg.left (A1:=[z]) m0 fun w hw x hx=>?_;rw [Iq] at hw;subst hw;unfold tkR at hx;rw [JV,JX] at hx;exact hz' x hx
 rw [nz];refine IG (wpS_lift (JK ⟨rfl,?_⟩));rw [bH,bH];refine bu hz ?_;rw [show (#[F z]:Array Keyed)=arK F [z] from rfl];by_cases c:la.length - 1=0
 ·rw [Ip (by rw [c];rfl)];exact IC (h _ _ (ux h0 (.inl c)))
 rw [Im (by rw [IZ];exact c)];by_cases c:lb.length=1
 ·rw [Ip (by rw [c];rfl)];exact IC (h _ _ (wa hy0 hy0' h0 c))
 rw [Im (by rw [IZ];exact c)];refine IG (K0 ?_);refine IG (JM (Ju (I:=fun i (c:Option (Array Keyed)×Nat×Nat×Array Keyed×Nat) st=>c.1=none/\HI F lt κ X pd tot la lb (i+1) c.2.2.2.1 c.2.1 c.2.2.1 st) (Q:=fun (c:Option (Array Keyed)×Nat×Nat×Array Keyed×Nat) st=>∃ r,c.1=some r/\FI F lt κ X pd tot r st) ?_ ?_ ⟨rfl,[z],_,rfl,rfl,Iv _,h0,by dsimp only;omega,by dsimp only;omega⟩) ?_)
 ·rintro i ⟨r,na,nb,out,mg⟩ st _ hi ⟨e,o,g,e1,rfl,hL,hM,ha,hb⟩;dsimp only at e e1 hM ha hb ⊢;subst e e1;refine IG (JM (Ju (I:=fun j (c:DL) st=>c.1=none/\HI F lt κ X pd tot la lb (i+1+min j 1) c.2.2.2.1 c.2.1 c.2.2.1 st) (Q:=fun (c:DL) st=>HD F lt κ X pd tot la lb (i+2) c.1 c.2.2.2.1 c.2.1 c.2.2.1 st) ?_ ?_ ⟨rfl,o,_,rfl,rfl,hL,hM,ha,hb⟩) ?_)
  ·rintro j ⟨r,na,nb,out,ac,bc⟩ st _ hj ⟨e,o,g,e1,rfl,hL,hM,ha,hb⟩;dsimp only at e e1 hM ha hb hL ⊢;subst e e1;refine JM (Dd O nd bd hc (L:=i+2) hy0 hy0' hM ha hb (by omega)) ?_;rintro r st (⟨c,rfl,q⟩ | ⟨c,rfl,e,o,g,q1,q2,q3,q4⟩)
   ·exact q
   ·exact ⟨e,o,g,q1,q2,by omega,q4⟩
  ·rintro ⟨r,na,nb,out,ac,bc⟩ st ⟨e,o,g,q1,q2,q3,q4⟩;exact .inr ⟨e,o,g,q1,q2,by omega,q4⟩
  ·rintro ⟨r,na,nb,out,ac,bc⟩ st (⟨r,e,q⟩ | ⟨e,o,g,e1,rfl,hL,hM,ha,hb⟩)
   ·dsimp only at e ⊢;subst e;exact IC ⟨r,rfl,q⟩
   dsimp only at e e1 hM ha hb hL ⊢;subst e e1;refine IG (wpS_lift (JK ⟨rfl,?_⟩));refine IG (JM (Ju (I:=fun j (c:DG) st=>c.1=none/\HI F lt κ X pd tot la lb (i+2) c.2.2.2.1 c.2.1 c.2.2.1 st) (Q:=fun (c:DG) st=>HD F lt κ X pd tot la lb (i+2) c.1 c.2.2.2.1 c.2.1 c.2.2.1 st) ?_ ?_ ⟨rfl,o,_,rfl,rfl,hL,hM,ha,hb⟩) ?_)
   ·rintro j ⟨r,na,nb,out,mg,ac,bc⟩ st _ hj ⟨e,o,g,e1,rfl,hL,hM,ha,hb⟩;dsimp only at e e1 hM ha hb hL ⊢;subst e e1;split
    all_goals
     refine JM (Bp O nd bd hc (L:=i+2) hy0 hy0' hM ha hb (by omega)) ?_;rintro (c | c) st q
     ·exact q
     ·exact q
   ·rintro ⟨r,na,nb,out,mg,ac,bc⟩ st ⟨e,q⟩;exact .inr ⟨e,q⟩
   ·rintro ⟨r,na,nb,out,mg,ac,bc⟩ st (⟨r,e,q⟩ | ⟨e,o,g,e1,rfl,hL,hM,ha,hb⟩)
    ·dsimp only at e ⊢;subst e;exact IC ⟨r,rfl,q⟩
    dsimp only at e e1 hM ha hb hL ⊢;subst e e1;rw [iW];exact IG (Kp (IC ⟨rfl,o,_,rfl,rfl,hL,hM,ha,hb⟩))
 ·rintro ⟨r,na,nb,out,mg⟩ st ⟨e,o,g,e1,rfl,hL,hM,ha,hb⟩;exfalso;have:=hM.len;dsimp only at this ha hb;rw [uj ha.2,uj hb.2] at this;omega
 ·rintro ⟨r,na,nb,out,mg⟩ st ⟨r,e,q⟩;dsimp only at e ⊢;subst e;exact IC (h _ _ q)
end
end L2
end
section
namespace L2
open PySem PySem.Spec PyProof.Rows PySem.W
def putAll (n:Nat) (a:Array Keyed) (m:List (Keyed×Nat)):Array Keyed:=m.foldl (fun a p=>a.setIfInBounds (n+p.2) p.1) a
theorem mI {n:Nat}:∀ (m U P T:List Keyed) (k:Nat) (a:Array Keyed),a.toList=P++U++T->P.length=n+k->U.length=m.length->(putAll n a (m.zipIdx k)).toList=P++m++T
 | [],[],P,T,k,a,h,_,_=>h
 | p :: m,u :: U,P,T,k,a,h,e,el=>by
  rw [List.zipIdx_cons];show (putAll n (a.setIfInBounds (n+k) p) (m.zipIdx (k+1))).toList=_;rw [mI m U (P++[p]) T (k+1) _ (by rw [Array.toList_setIfInBounds,h,<-e];simp) (by rw [Ic,e];rfl) (by simpa using el)];simp
 | [],u :: U,P,T,k,a,h,_,el=>by cases el
 | p :: m,[],P,T,k,a,h,_,el=>by cases el
theorem sQ {F:Nat->Keyed} {P U T o:List Nat} (h:U.length=o.length):putAll P.length (arK F (P++U++T)) (arK F o).toList.zipIdx=arK F (P++o++T):=by
 apply Array.toList_inj.mp;rw [mI (arK F o).toList (U.map F) (P.map F) (T.map F) 0 _ (by simp [arK]) (by simp) (by simp [arK,h])];simp [arK]
section
variable {M:Model} {E:Value->Shared->Prop} {Ar:Around} {s:Shared} {F:Nat->Keyed} {lt:Nat->Nat->Bool} {N:Nat} {κ:SortKind} {pd:Array (Nat×Nat×Nat)}
theorem y9 {σ:Type} {st st':σ} {Q:PUnit->σ->Prop} (h:Q ⟨⟩ st'):wpS M Ar E s (set st':StateT σ Sem PUnit) Q st:=by
 unfold wpS;rw [StateT.run_set];exact Il ⟨rfl,h⟩
theorem pw_last {l:List Nat} {z:Nat} (hp:l.Pairwise fun x y=>lt x y=true) (hz:l[l.length - 1]?=some z) {x:Nat} (hx:x∈l):x=z\/lt x z=true:=by
 obtain ⟨i,hi,e⟩:=List.mem_iff_getElem.mp hx;obtain ⟨h1,e1⟩:=Ie.mp hz;by_cases c:i=l.length - 1
 ·subst c;exact .inl (e.symm.trans e1)
 ·exact .inr (by have:=Jy.mp hp i (l.length - 1) hi h1 (by omega);rwa [e,e1] at this)
theorem sN {pre X Y post:List Nat} {i g pw pw2:Nat} {Q:Bool->SortSt->Prop} (O:Ord lt N) (nd:(X++Y).Nodup) (bd:∀ x∈X++Y,x < N) (hc:Cmp M Ar E s F lt N κ)
  (h1:pd[i]?=some (pre.length,X.length,pw)) (h2:pd[i+1]?=some (pre.length+X.length,Y.length,pw2)) (hX:X≠[]) (hY:Y≠[]) (sX:X.Pairwise fun x y=>lt x y=true) (sY:Y.Pairwise fun x y=>lt x y=true)
  (h:∀ Z g,Z.Pairwise (fun x y=>lt x y=true)->Z.Perm (X++Y)->Q true (SortSt.mk' κ (arK F (pre++Z++post)) ((pd.setIfInBounds i (pre.length,X.length+Y.length,pw)).eraseIdxIfInBounds (i+1)) g none)) :
  wpS M Ar E s (mergeAt' i) Q (SortSt.mk' κ (arK F (pre++(X++Y)++post)) pd g none):=by
 obtain ⟨y0,Y',rfl⟩:∃ y0 Y',Y=y0 :: Y':=by cases Y with | nil=>exact absurd rfl hY | cons a b=>exact ⟨a,b,rfl⟩
 have hXl:0 < X.length:=List.length_pos_iff.mpr hX;have dis:∀ x∈X,∀ y∈y0 :: Y',x≠y:=fun x hx y hy=>(Jg.mp nd).2.2 x hx y hy;have bX:∀ x∈X,x < N:=fun x hx=>bd x (IL _ hx);have bY:∀ x∈y0 :: Y',x < N:=fun x hx=>bd x (Ij _ hx);have hy0:∀ y∈y0 :: Y',y0=y\/lt y0 y=true:=fun y hy=>by
  rcases Iz.mp hy with rfl | hy
  ·exact .inl rfl
  ·exact .inr ((JB.mp sY).1 _ hy)
 have up:∀ {x y:Nat},lt x y0=true->y∈y0 :: Y'->lt x y=true:=fun e hy=>by
  rcases hy0 _ hy with rfl | z
  ·exact e
  ·exact O.tr _ _ _ e z
 unfold mergeAt';refine IG (K0 ?_);dsimp only [SortSt.mk'];rw [h1,h2];dsimp only;refine IG (y9 ?_);refine bu (x:=y0) (by rw [IK,Ii (by omega),IK,Ii (by omega)];simp) ?_;refine IG (ql (S:=X) O hc rfl (by simp) rfl sX bX (bY _ (Ik ..)) hXl fun X1 X2 eX q1 q2=>?_);dsimp only;have q1':∀ x∈X1,lt x y0=true:=fun x hx=>by
  have:=q1 x hx;rw [Im IE,Kd] at this;have hx':x∈X:=by rw [eX];exact IL _ hx
  exact O.tot _ _ (bY _ (Ik ..)) (bX _ hx') (Ne.symm (dis _ hx' _ (Ik ..))) this
 have q2':∀ x∈X2,lt y0 x=true:=fun x hx=>by
  have:=q2 x hx
  rwa [Im IE,Bool.not_eq_false'] at this
 have hl:X.length=X1.length+X2.length:=by rw [eX,Ic]
 rw [show X.length - X1.length=X2.length by omega];by_cases c:X2.length=0
 ·rw [Ip (by rw [c];rfl)];have e0:=IV c;subst e0;rw [Jd] at eX;subst eX;exact IC (h _ _ (ID.mpr ⟨sX,sY,fun x hx y hy=>up (q1' x hx) hy⟩) (J6 _))
 rw [Im (by rw [IZ];exact c)];obtain ⟨z,hz⟩:∃ z,X2[X2.length - 1]?=some z:=⟨_,Ia (by omega)⟩;have hzm:z∈X2:=IM hz;have hzX:z∈X:=by rw [eX];exact Ij _ hzm
 have sX2:X2.Pairwise fun x y=>lt x y=true:=by rw [eX] at sX;exact (ID.mp sX).2.1
 refine bu (x:=z) (by rw [eX,show pre.length+X1.length+X2.length - 1=pre.length+(X1.length+(X2.length - 1)) by omega,IK,Ii (by omega),J4,IK,IK,Ii (by omega),J4,Iu (by omega)];exact hz) ?_;refine IG (ql (S:=y0 :: Y') O hc rfl (by rw [<- IK,<-Ic,IK,KH,List.take_left]) rfl sY bY (bX _ hzX) (by simp) fun Y1 Y2 eY r1 r2=>?_);dsimp only;have r2':∀ y∈Y2,lt z y=true:=fun y hy=>by
  have:=r2 y hy;rw [Ip rfl] at this;have hy':y∈y0 :: Y':=by rw [eY];exact Ij _ hy
  exact O.tot _ _ (bY _ hy') (bX _ hzX) (Ne.symm (dis _ hzX _ hy')) this
 have zup:∀ x∈X2,∀ y∈Y2,lt x y=true:=fun x hx y hy=>by
  rcases pw_last sX2 hz hx with rfl | e
  ·exact r2' y hy
  ·exact O.tr _ _ _ e (r2' y hy)
 by_cases c1:Y1.length=0
 ·exfalso;have e0:=IV c1;subst e0;rw [List.nil_append] at eY;have a1:=r2' y0 (by rw [<- eY];exact Ik ..);have a2:=O.tr _ _ _ a1 (q2' z hzm);rw [O.irr] at a2;exact absurd a2 (by decide)
 rw [Im (by rw [IZ];exact c1)];obtain ⟨B,eB⟩:∃ B,Y1=y0 :: B:=by
  cases Y1 with
  | nil=>exact absurd rfl c1
  | cons a b=>exact ⟨b,by rw [KY] at eY;rw [(List.cons.inj eY).1]⟩
 have ex:(arK F (pre++(X++y0 :: Y')++post)).extract (pre.length+X1.length) (pre.length+X.length)=arK F X2:=by
  rw [qm,eX,show pre.length+(X1++X2).length - (pre.length+X1.length)=X2.length by rw [Ic];omega];congr 1;rw [<- Ic,show pre++(X1++X2++y0 :: Y')++post=(pre++X1)++(X2++(y0 :: Y'++post)) by simp,KH,List.take_left]
 have ey:(arK F (pre++(X++y0 :: Y')++post)).extract (pre.length+X.length) (pre.length+X.length+Y1.length)=arK F Y1:=by
  rw [qm,J4,eY];congr 1;rw [<- Ic,show pre++(X++(Y1++Y2))++post=(pre++X)++(Y1++(Y2++post)) by simp,KH,List.take_left]
 rw [ex,ey];have sY1:=sY;rw [eY] at sY1;have hz':∀ y∈Y1,lt y z=true:=fun y hy=>by have:=r1 y hy;rwa [Ip rfl] at this
 have nd2:(X2++Y1).Nodup:=by
  rw [eX,eY,IK] at nd;have n2:=(Jg.mp nd).2.1;rw [<- IK] at n2;exact (Jg.mp n2).1
 have bd2:∀ x∈X2++Y1,x < N:=fun x hx=>by
  rcases Ja.mp hx with hx | hx
  ·exact bX x (by rw [eX];exact Ij _ hx)
  ·exact bY x (by rw [eY];exact IL _ hx)
 have fin:∀ (r:Array Keyed) (st:SortSt),FI F lt κ (arK F (pre++(X++y0 :: Y')++post)) ((pd.setIfInBounds i (pre.length,X.length+(y0 :: Y').length,pw)).eraseIdxIfInBounds (i+1)) (X2++Y1) r st ->
   wpS M Ar E s (do
    modify fun s=>setArr s (putAll (pre.length+X1.length) (arrOf s) r.toList.zipIdx)
    let st<-get
    pure (failedOf st).isNone) Q st:=by
  rintro _ _ ⟨o,g,rfl,rfl,so,po⟩;refine IG (Kp (IG (K0 (IC ?_))));show Q true (SortSt.mk' κ (putAll (pre.length+X1.length) (arK F (pre++(X++y0 :: Y')++post)) (arK F o).toList.zipIdx) _ g none);have e1:putAll (pre.length+X1.length) (arK F (pre++(X++y0 :: Y')++post)) (arK F o).toList.zipIdx=arK F (pre++(X1++o++Y2)++post):=by
   rw [<- Ic,eX,eY,show pre++(X1++X2++(Y1++Y2))++post=(pre++X1)++(X2++Y1)++(Y2++post) by simp,sQ po.length_eq.symm];simp
  rw [e1];refine h _ _ ?_ ?_
  ·have sX':=sX;rw [eX] at sX';rw [IK];refine ID.mpr ⟨(ID.mp sX').1,ID.mpr ⟨so,(ID.mp sY1).2.1,fun x hx y hy=>?_⟩,fun x hx y hy=>?_⟩
   ·rcases Ja.mp (po.mem_iff.mp hx) with hx | hx
    ·exact zup x hx y hy
    ·exact (ID.mp sY1).2.2 x hx y hy
   ·rcases Ja.mp hy with hy | hy
    ·rcases Ja.mp (po.mem_iff.mp hy) with hy | hy
     ·exact (ID.mp sX').2.2 x hx y hy
     ·exact up (q1' x hx) (by rw [eY];exact IL _ hy)
    ·exact up (q1' x hx) (by rw [eY];exact Ij _ hy)
  ·rw [eX,eY,IK,IK];refine Kb _ ?_;rw [<- IK];exact List.Perm.append_right _ po
 split
 ·exact IG (uv O nd2 bd2 hc hz hz' eB q2' sX2 (ID.mp sY1).1 rfl fin)
 ·exact IG (ui O nd2 bd2 hc hz hz' (y0:=y0) (by rw [eB];rfl) q2' sX2 (ID.mp sY1).1 rfl fin)
end
end L2
end
section
namespace L2
open PySem PySem.Spec PyProof.Rows PySem.W
section
variable {F:Nat->Keyed}
theorem fv {l:List Nat} {k:Nat}:(arK F l)[k]?=(l[k]?).map F:=by simp [arK]
theorem uA {pre S T:List Nat}:mirror (arK F (pre++(S++T))) pre.length (pre.length+S.length) ((pre.length+S.length - pre.length) / 2)=arK F (pre++(S.reverse++T)):=by
 apply Array.ext_getElem?;intro k;rw [getElem?_mirror_all (by rw [bH,Ic,Ic];omega),fv,fv,fv];by_cases c1:k < pre.length
 ·rw [Im (by omega),Iu c1,Iu c1]
 ·rw [Ii (l₁:=pre) (i:=k) (by omega),Ii (l₁:=pre) (i:=k) (by omega)];by_cases c2:k < pre.length+S.length
  ·rw [Ip (by omega),Ii (by omega),Iu (by omega),Iu (by rw [KA];omega),List.getElem?_reverse (by omega)];congr 2;omega
  ·rw [Im (by omega),Ii (l₁:=S) (by omega),Ii (l₁:=S.reverse) (by rw [KA];omega),KA]
theorem uM {pre S1 S2 T:List Nat} {x:Nat}:bubble (arK F (pre++(S1++S2++x :: T))) (pre.length+(S1++S2).length) (pre.length+(S1++S2).length - (pre.length+S1.length))=arK F (pre++(S1++x :: S2++T)):=by
 apply Array.ext_getElem?;intro k;have hs:pre.length+(S1++S2).length < (arK F (pre++(S1++S2++x :: T))).size:=by rw [bH];simp only [Ic,IH];omega
 rw [getElem?_bubble hs _ (by omega),fv,fv,fv,fv,show pre++(S1++S2++x :: T)=(pre++S1)++(S2++x :: T) by simp,show pre++(S1++x :: S2++T)=(pre++S1)++(x :: (S2++T)) by simp];rw [Ic];have hl:(pre++S1).length=pre.length+S1.length:=Ic;have e0:pre.length+(S1.length+S2.length) - (pre.length+(S1.length+S2.length) - (pre.length+S1.length))=pre.length+S1.length:=by omega
 rw [e0];by_cases c1:k=pre.length+S1.length
 ·subst c1;rw [Ip rfl,Ii (by omega),Ii (l₁:=pre++S1) (by omega),hl,show pre.length+(S1.length+S2.length) - (pre.length+S1.length)=S2.length by omega,Ii (by omega),KC,KC];rfl
 ·rw [Im c1];by_cases c2:k < pre.length+S1.length
  ·rw [Im (by omega),Iu (l₁:=pre++S1) (by omega),Iu (l₁:=pre++S1) (by omega)]
  ·by_cases c3:k<=pre.length+(S1.length+S2.length)
   ·rw [Ip (by omega),Ii (by omega),Ii (l₁:=pre++S1) (i:=k) (by omega),hl,Iu (by omega),show k - (pre.length+S1.length)=(k - 1 - (pre.length+S1.length))+1 by omega,KW,Iu (by omega)]
   ·rw [Im (by omega),Ii (by omega),Ii (l₁:=pre++S1) (i:=k) (by omega),hl,Ii (l₁:=S2) (by omega),show k - (pre.length+S1.length)=(k - (pre.length+S1.length) - 1)+1 by omega,KW,Ii (l₁:=S2) (by omega),show k - (pre.length+S1.length) - 1+1 - S2.length=(k - (pre.length+S1.length) - 1 - S2.length)+1 by omega,KW]
end
def GX (lo:Nat) (c:Option (Option Nat)×Nat):StateT SortSt Sem (ForInStep (Option (Option Nat)×Nat)):=do
 let some smaller<-ltAt' (lo+c.2) (lo+c.2 - 1) | return .done (some none,c.2)
 if smaller then return .done (none,c.2)
 return .yield (none,c.2+1)
section
variable {M:Model} {E:Value->Shared->Prop} {Ar:Around} {s:Shared} {F:Nat->Keyed} {lt:Nat->Nat->Bool} {N:Nat} {κ:SortKind} {pd:Array (Nat×Nat×Nat)} {g:Nat}
theorem mE {l:List Nat} {i j x y:Nat} {Q:Option Bool->SortSt->Prop} (hc:Cmp M Ar E s F lt N κ) (bd:∀ x∈l,x < N) (hi:l[i]?=some x) (hj:l[j]?=some y) (q:Q (some (lt x y)) (SortSt.mk' κ (arK F l) pd g none)):wpS M Ar E s (ltAt' i j) Q (SortSt.mk' κ (arK F l) pd g none):=by
 rw [ltAt'_eq];refine IG (K0 ?_);exact bu hi (bu hj (hc _ _ _ _ rfl (bd _ (IM hi)) (bd _ (IM hj)) q))
theorem iw {pre S T:List Nat} {k x:Nat} (h:(S++T)[k]?=some x):(pre++(S++T))[pre.length+k]?=some x:=by rw [Ii (by omega),J4,h]
theorem tS {S:List Nat} (h:0 < S.length):∃ z,S[S.length - 1]?=some z:=⟨_,Ia (by omega)⟩
theorem pw_snoc {S:List Nat} {x y:Nat} (O:Ord lt N) (hp:S.Pairwise fun x y=>lt x y=true) (hz:S[S.length - 1]?=some x) (e:lt x y=true):(S++[y]).Pairwise fun x y=>lt x y=true:=by
 refine ID.mpr ⟨hp,List.pairwise_singleton _ _,fun a ha b hb=>?_⟩;rw [Iq] at hb;subst hb;rcases pw_last hp hz ha with rfl | z
 ·exact e
 ·exact O.tr _ _ _ z e
theorem CU {pre S T:List Nat} {n nrem:Nat} {Q:Option (Option Nat)×Nat->SortSt->Prop} (O:Ord lt N) (hc:Cmp M Ar E s F lt N κ) (bd:∀ x∈pre++(S++T),x < N) (nd:(S++T).Nodup) (hn:S.length=n) (h1:1<=n) (hr:(S++T).length=nrem) (sS:S.Pairwise fun x y=>lt x y=true)
  (h:∀ S' T',S'++T'=S++T->S'.Pairwise (fun x y=>lt x y=true)->n<=S'.length->(∀ x y T'',T'=y :: T''->S'[S'.length - 1]?=some x->lt y x=true)->Q (none,S'.length) (SortSt.mk' κ (arK F (pre++(S++T))) pd g none)) :
  wpS M Ar E s (forIn [n:nrem] ((none,n):Option (Option Nat)×Nat) fun _ c=>GX pre.length c) Q (SortSt.mk' κ (arK F (pre++(S++T))) pd g none):=by
 refine Ju (I:=fun i (c:Option (Option Nat)×Nat) st=>c=(none,i)/\st=SortSt.mk' κ (arK F (pre++(S++T))) pd g none/\∃ S' T',S'++T'=S++T/\S'.Pairwise (fun x y=>lt x y=true)/\S'.length=i) ?_ ?_ ⟨rfl,rfl,S,T,rfl,sS,hn⟩
 ·rintro i _ _ hi1 hi2 ⟨rfl,rfl,S',T',e,sS',el⟩;unfold GX;dsimp only;obtain ⟨x,hx⟩:=tS (S:=S') (by omega);have hl:S'.length+T'.length=nrem:=by rw [<- Ic,e,hr]
  obtain ⟨y,T'',rfl⟩:∃ y T'',T'=y :: T'':=by cases T' with | nil=>rw [JL] at hl;omega | cons a b=>exact ⟨a,b,rfl⟩
  rw [<- e] at bd h nd ⊢;refine IG (mE hc bd (x:=y) (y:=x) (iw (by rw [<- el,Ii (Iv _),KC];rfl)) (by rw [Nat.add_sub_assoc (by omega)];exact iw (by rw [<- el,Iu (by omega)];exact hx)) ?_);dsimp only;cases c:lt y x with
  | true =>
   rw [Ip rfl];have:=h S' (y :: T'') rfl sS' (by omega) (fun x' y' T3 e1 e2=>by rw [hx] at e2;injection e1 with e1 _;injection e2 with e2;subst e1 e2;exact c);rw [el] at this;exact IC this
  | false =>
   rw [Im IE];have hne:x≠y:=(Jg.mp nd).2.2 x (IM hx) y (Ik ..);have hxy:lt x y=true:=O.tot y x (bd _ (Ij _ (Ij _ (Ik ..)))) (bd _ (Ij _ (IL _ (IM hx)))) (Ne.symm hne) c;exact IC ⟨rfl,rfl,S'++[y],T'',by simp,pw_snoc O sS' hx hxy,by rw [Ic,el];rfl⟩
 ·rintro _ _ ⟨rfl,rfl,S',T',e,sS',el⟩;have hl:S'.length+T'.length=nrem:=by rw [<- Ic,e,hr]
  have hS:n<=nrem:=by rw [<- hr,<-hn,Ic];omega
  have e0:T'=[]:=IV (by omega);subst e0;rw [<- el];exact h S' [] e sS' (by omega) (fun _ _ _ e1=>by cases e1)
theorem w_count {pre R:List Nat} {nrem:Nat} {Q:Option Nat->SortSt->Prop} (O:Ord lt N) (hc:Cmp M Ar E s F lt N κ) (bd:∀ x∈pre++R,x < N) (nd:R.Nodup) (hr:R.length=nrem) (h1:1<=nrem)
  (h:∀ S T,(S++T).Perm R->S.Pairwise (fun x y=>lt x y=true)->1<=S.length->Q (some S.length) (SortSt.mk' κ (arK F (pre++(S++T))) pd g none)) :
  wpS M Ar E s (countRun' pre.length nrem) Q (SortSt.mk' κ (arK F (pre++R)) pd g none):=by
 obtain ⟨a,R',rfl⟩:∃ a R',R=a :: R':=by cases R with | nil=>rw [JL] at hr;omega | cons a b=>exact ⟨a,b,rfl⟩
 rw [countRun'_eq];dsimp only;refine IG (CU (S:=[a]) (T:=R') O hc bd nd rfl (Iv _) hr (List.pairwise_singleton _ _) fun S T e sS hS hst=>?_);dsimp only;by_cases c:S.length=nrem
 ·rw [Ip (by rw [c];exact Jr _),<-e];exact IC (h S T (by rw [e];exact J6 _) sS hS)
 rw [Im (by rw [IZ];exact c)];by_cases c2:S.length > 1
 ·rw [Ip c2];obtain ⟨z,hz⟩:=tS (S:=S) (by omega);have hSa:S[0]?=some a:=by
   cases S with
   | nil=>exact absurd hS (by decide)
   | cons b S=>rw [KY,List.singleton_append] at e;rw [(List.cons.inj e).1];rfl
  have hlt:lt a z=true:=by
   obtain ⟨u1,u2⟩:=Ie.mp hSa;obtain ⟨u3,u4⟩:=Ie.mp hz;have:=Jy.mp sS 0 (S.length - 1) u1 u3 (by omega)
   rwa [u2,u4] at this
  rw [<- e];refine IG (mE hc (by rw [e];exact bd) (x:=a) (y:=z) (by rw [<- Nat.add_zero pre.length];exact iw (by rw [Iu (by omega)];exact hSa)) (by rw [Nat.add_sub_assoc (by omega)];exact iw (by rw [Iu (by omega)];exact hz)) ?_);dsimp only;rw [hlt,Ip rfl];exact IC (h S T (by rw [e];exact J6 _) sS hS)
 rw [Im c2];refine IG (wpS_lift (JK ⟨rfl,?_⟩));have hS1:S.length=1:=by omega
 obtain ⟨rfl,rfl⟩:S=[a]/\T=R':=List.append_inj e hS1;rw [Ku];obtain ⟨b,R2,rfl⟩:∃ b R2,T=b :: R2:=by cases T with | nil=>exact absurd hr c | cons a b=>exact ⟨a,b,rfl⟩
 have hba:=hst a b R2 rfl rfl
 refine IG (JM (Ju (I:=fun i (c:Option (Option Nat)×Nat×Nat) st=>c=(none,i,0)/\st=SortSt.mk' κ (arK F (pre++([a]++b :: R2))) pd g none/\∃ S' T',S'++T'=[a]++b :: R2/\S'.Pairwise (fun x y=>lt y x=true)/\S'.length=i/\2<=i)
  (Q:=fun (c:Option (Option Nat)×Nat×Nat) st=>∃ n,c=(none,n,0)/\st=SortSt.mk' κ (arK F (pre++([a]++b :: R2))) pd g none/\∃ S' T',S'++T'=[a]++b :: R2/\S'.Pairwise (fun x y=>lt y x=true)/\S'.length=n/\2<=n)
  ?_ (fun c st z=>⟨_,z⟩) ⟨rfl,rfl,[a,b],R2,rfl,by simpa using hba,rfl,Iv _⟩) ?_)
 ·rintro i _ _ hi1 hi2 ⟨rfl,rfl,S',T',e,sS',el,h2⟩;dsimp only;obtain ⟨x,hx⟩:=tS (S:=S') (by omega);have hl:S'.length+T'.length=nrem:=by rw [<- Ic,e,<-hr];rfl
  obtain ⟨y,T'',rfl⟩:∃ y T'',T'=y :: T'':=by cases T' with | nil=>rw [JL] at hl;omega | cons a b=>exact ⟨a,b,rfl⟩
  have bd':∀ x∈pre++(S'++y :: T''),x < N:=by rw [e];exact bd
  have nd':(S'++y :: T'').Nodup:=by rw [e];exact nd
  have gy:(pre++(S'++y :: T''))[pre.length+i]?=some y:=iw (by rw [<- el,Ii (Iv _),KC];rfl);have gx:(pre++(S'++y :: T''))[pre.length+i - 1]?=some x:=by rw [Nat.add_sub_assoc (by omega)];exact iw (by rw [<- el,Iu (by omega)];exact hx)
  rw [<- e];refine IG (mE hc bd' gy gx ?_);dsimp only;cases c:lt y x with
  | true =>
   rw [Ip rfl,Im (by decide)];exact IC ⟨rfl,rfl,S'++[y],T'',by simp,pw_snoc (lt:=fun x y=>lt y x) O.flip sS' hx c,by rw [Ic,el];rfl,by omega⟩
  | false =>
   rw [Im IE];have hne:x≠y:=(Jg.mp nd').2.2 x (IM hx) y (Ik ..);have hxy:lt x y=true:=O.tot y x (bd' _ (Ij _ (Ij _ (Ik ..)))) (bd' _ (Ij _ (IL _ (IM hx)))) (Ne.symm hne) c;refine IG (mE hc bd' gx gy ?_);dsimp only;rw [hxy,Ip rfl];exact IC ⟨i,rfl,rfl,S',_,rfl,sS',el,h2⟩
 ·rintro _ _ ⟨n,rfl,rfl,S',T',e,sS',el,h2⟩;dsimp only;rw [Im (by decide),reverseSlice'_eq,<-e];refine IG (Kp ?_);have em:mirror (arK F (pre++(S'++T'))) pre.length (pre.length+n) ((pre.length+n - pre.length) / 2)=arK F (pre++(S'.reverse++T')):=by rw [<- el];exact uA
  show wpS M Ar E s _ Q (SortSt.mk' κ (mirror (arK F (pre++(S'++T'))) pre.length (pre.length+n) ((pre.length+n - pre.length) / 2)) pd g none);rw [em];have pr:(S'.reverse++T').Perm ([a]++b :: R2):=by rw [<- e];exact List.Perm.append_right _ (Kt _)
  refine IG (CU (S:=S'.reverse) (T:=T') O hc (fun x hx=>?_) (pr.nodup_iff.mpr nd) (by rw [KA];exact el) (by omega) (by rw [pr.length_eq];exact hr) (JZ.mpr sS') fun S3 T3 e3 s3 l3 _=>?_)
  ·rcases Ja.mp hx with hx | hx
   ·exact bd x (IL _ hx)
   ·exact bd x (Ij _ (pr.mem_iff.mp hx))
  ·dsimp only;rw [<- e3] at pr ⊢;exact IC (h S3 T3 pr s3 (by omega))
def plB (lo k:Nat) (c:Option Bool×Nat×Nat):StateT SortSt Sem (ForInStep (Option Bool×Nat×Nat)) :=
 if c.2.1>=c.2.2 then pure (.done (none,c.2.1,c.2.2)) else do
  let some less<-ltAt' (lo+k) (lo+(c.2.1+c.2.2) / 2) | return .done (some false,c.2.1,c.2.2)
  if less then return .yield (none,c.2.1,(c.2.1+c.2.2) / 2)
  return .yield (none,(c.2.1+c.2.2) / 2+1,c.2.2)
theorem yV {pre S T:List Nat} {k y:Nat} {Q:Option Bool×Nat×Nat->SortSt->Prop} (O:Ord lt N) (hc:Cmp M Ar E s F lt N κ) (bd:∀ x∈pre++(S++y :: T),x < N) (nd:(S++y :: T).Nodup) (hk:S.length=k) (sS:S.Pairwise fun x y=>lt x y=true)
  (h:∀ S1 S2,S=S1++S2->(∀ x∈S1,lt x y=true)->(∀ x∈S2,lt y x=true)->∀ r,Q (none,S1.length,r) (SortSt.mk' κ (arK F (pre++(S++y :: T))) pd g none)) :
  wpS M Ar E s (forIn [0:k] ((none,0,k):Option Bool×Nat×Nat) fun _ c=>plB pre.length k c) Q (SortSt.mk' κ (arK F (pre++(S++y :: T))) pd g none):=by
 have fin:∀ l,l<=k->(∀ i,i < l->∀ x,S[i]?=some x->lt y x=false)->(∀ i,l<=i->i < k->∀ x,S[i]?=some x->lt y x=true)->∀ r,Q (none,l,r) (SortSt.mk' κ (arK F (pre++(S++y :: T))) pd g none):=fun l hl a1 a2 r=>by
  obtain ⟨S1,S2,e,el,b1,b2⟩:=pv (S:=S) (P:=fun x=>!lt y x) (k:=l) (by omega) (fun i hi x e=>by rw [a1 i hi x e];rfl) (fun i hi hi' x e=>by rw [a2 i hi (by omega) x e];rfl);rw [<- el];refine h S1 S2 e (fun x hx=>?_) (fun x hx=>?_) r
  ·have b:=b1 x hx;rw [Kd] at b;have hx':x∈S:=by rw [e];exact IL _ hx
   exact O.tot _ _ (bd _ (Ij _ (Ij _ (Ik ..)))) (bd _ (Ij _ (IL _ hx'))) (Ne.symm ((Jg.mp nd).2.2 x hx' y (Ik ..))) b
  ·have b:=b2 x hx
   rwa [Bool.not_eq_false'] at b
 have mono:∀ i j x x',i < j->S[i]?=some x->S[j]?=some x'->lt x x'=true:=fun i j x x' hij e1 e2=>by
  obtain ⟨u1,u2⟩:=Ie.mp e1;obtain ⟨u3,u4⟩:=Ie.mp e2;have:=Jy.mp sS i j u1 u3 hij
  rwa [u2,u4] at this
 refine Ju (I:=fun i (c:Option Bool×Nat×Nat) st=>st=SortSt.mk' κ (arK F (pre++(S++y :: T))) pd g none/\c.1=none/\c.2.1<=c.2.2/\c.2.2<=k/\c.2.2 - c.2.1<=k - i/\(∀ i,i < c.2.1->∀ x,S[i]?=some x->lt y x=false)/\(∀ i,c.2.2<=i->i < k->∀ x,S[i]?=some x->lt y x=true)) ?_ ?_ ⟨rfl,rfl,Jw _,Iv _,Iv _,fun i z=>absurd z (Nat.not_lt_zero _),fun i z z'=>absurd z (by dsimp only;omega)⟩
 ·rintro i ⟨r,lo,hi⟩ _ _ hi' ⟨rfl,e,a1,a2,a3,a4,a5⟩;dsimp only at e a1 a2 a3 a4 a5;subst e;unfold plB;dsimp only;by_cases c:lo>=hi
  ·rw [Ip c];exact IC (fin lo (by omega) a4 (fun i z z'=>a5 i (by omega) z') hi)
  ·rw [Im c];obtain ⟨x,hx⟩:∃ x,S[(lo+hi) / 2]?=some x:=⟨_,Ia (by omega)⟩;refine IG (mE hc bd (x:=y) (y:=x) (iw (by rw [<- hk,Ii (Iv _),KC];rfl)) (iw (by rw [Iu (by omega)];exact hx)) ?_);dsimp only;cases e:lt y x with
   | true =>
    rw [Ip rfl];refine IC ⟨rfl,rfl,by dsimp only;omega,by dsimp only;omega,by dsimp only;omega,a4,fun i z z' x' hx'=>?_⟩;dsimp only at z;rcases Nat.lt_or_eq_of_le z with z | z
    ·exact O.tr _ _ _ e (mono _ _ _ _ z hx hx')
    ·rw [<- z,hx] at hx';injection hx' with hx';rw [<- hx'];exact e
   | false =>
    rw [Im IE];refine IC ⟨rfl,rfl,by dsimp only;omega,by dsimp only;omega,by dsimp only;omega,fun i z x' hx'=>?_,a5⟩;dsimp only at z;by_cases z2:i=(lo+hi) / 2
    ·rw [z2,hx] at hx';injection hx' with hx';rw [<- hx'];exact e
    ·cases e2:lt y x' with
     | false=>rfl
     | true=>rw [O.tr _ _ _ e2 (mono _ _ _ _ (by omega) hx' hx)] at e;exact absurd e (by decide)
 ·rintro ⟨r,lo,hi⟩ _ ⟨rfl,e,a1,a2,a3,a4,a5⟩;dsimp only at e a1 a2 a3 a4 a5;subst e;exact fin lo (by omega) a4 (fun i z z'=>a5 i (by omega) z') hi
theorem Gj {pre R:List Nat} {n ok:Nat} {S T:List Nat} {Q:Bool->SortSt->Prop} (O:Ord lt N) (hc:Cmp M Ar E s F lt N κ) (bd:∀ x∈pre++(S++T),x < N) (nd:(S++T).Nodup) (hS:S.length=ok) (h1:1<=ok) (hn:ok<=n) (hr:n<=(S++T).length) (sS:S.Pairwise fun x y=>lt x y=true)
  (h:∀ S' T',(S'++T').Perm (S++T)->S'.Pairwise (fun x y=>lt x y=true)->S'.length=n->Q true (SortSt.mk' κ (arK F (pre++(S'++T'))) pd g none)) :
  wpS M Ar E s (binarySort' pre.length n ok) Q (SortSt.mk' κ (arK F (pre++(S++T))) pd g none):=by
 rw [binarySort'_eq,Nat.max_eq_left h1];dsimp only
 refine IG (JM (Ju (I:=fun k (c:Option Bool×PUnit) st=>c=(none,⟨⟩)/\∃ S' T',(S'++T').Perm (S++T)/\S'.Pairwise (fun x y=>lt x y=true)/\S'.length=k/\st=SortSt.mk' κ (arK F (pre++(S'++T'))) pd g none)
  (Q:=fun (c:Option Bool×PUnit) st=>c=(none,⟨⟩)/\∃ S' T',(S'++T').Perm (S++T)/\S'.Pairwise (fun x y=>lt x y=true)/\S'.length=n/\st=SortSt.mk' κ (arK F (pre++(S'++T'))) pd g none) ?_ ?_ ⟨rfl,S,T,J6 _,sS,hS,rfl⟩) ?_)
 ·rintro k _ _ hk1 hk2 ⟨rfl,S',T',pm,sS',el,rfl⟩;have hl:S'.length+T'.length=(S++T).length:=by rw [<- Ic,pm.length_eq]
  obtain ⟨y,T'',rfl⟩:∃ y T'',T'=y :: T'':=by cases T' with | nil=>rw [JL] at hl;omega | cons a b=>exact ⟨a,b,rfl⟩
  refine IG (yV O hc (fun x hx=>?_) (pm.nodup_iff.mpr nd) el sS' fun S1 S2 e q1 q2 r=>?_)
  ·rcases Ja.mp hx with hx | hx
   ·exact bd x (IL _ hx)
   ·exact bd x (Ij _ (pm.mem_iff.mp hx))
  ·dsimp only;rw [moveDown'_eq];refine IG (Kp (IC ⟨rfl,S1++y :: S2,T'',?_,?_,?_,?_⟩))
   ·refine List.Perm.trans ?_ pm;rw [e,IK,IK];refine Kb _ ?_;rw [KY];exact List.perm_middle.symm
   ·rw [e] at sS';have z:=ID.mp sS';refine ID.mpr ⟨z.1,JB.mpr ⟨q2,z.2.1⟩,fun a ha b hb=>?_⟩;rcases Iz.mp hb with rfl | hb
    ·exact q1 a ha
    ·exact z.2.2 a ha b hb
   ·rw [<- el,e];simp only [Ic,IH];omega
   ·have eb:=uM (F:=F) (pre:=pre) (S1:=S1) (S2:=S2) (T:=T'') (x:=y);rw [<- e,el] at eb;show SortSt.mk' κ (bubble (arK F (pre++(S'++y :: T''))) (pre.length+k) (pre.length+k - (pre.length+S1.length))) pd g none=_;rw [eb]
 ·rintro _ _ ⟨rfl,S',T',pm,sS',el,rfl⟩;exact ⟨rfl,S',T',pm,sS',by omega,rfl⟩
 ·rintro _ _ ⟨rfl,S',T',pm,sS',el,rfl⟩;exact IC (h S' T' pm sS' el)
end
end L2
end
section
namespace L2
open PySem PySem.Spec PyProof.Rows PySem.W
def Mt (lt:Nat->Nat->Bool):List (Nat×Nat×Nat)->Nat->List Nat->Prop
 | [],_,l=>l=[]
 | r :: ps,s,l=>r.1=s/\∃ X l',l=X++l'/\X.length=r.2.1/\X≠[]/\X.Pairwise (fun x y=>lt x y=true)/\Mt lt ps (s+r.2.1) l'
section
variable {lt:Nat->Nat->Bool}
theorem Mt.app:∀ {ps qs:List (Nat×Nat×Nat)} {s:Nat} {l:List Nat},Mt lt (ps++qs) s l->∃ l1 l2,l=l1++l2/\Mt lt ps s l1/\Mt lt qs (s+l1.length) l2
 | [],qs,s,l,h=>⟨[],l,rfl,rfl,h⟩
 | r :: ps,qs,s,l,h=>by
  obtain ⟨e,X,l',rfl,el,hX,sX,h⟩:=h;obtain ⟨l1,l2,rfl,h1,h2⟩:=Mt.app h;exact ⟨X++l1,l2,(IK ..).symm,⟨e,X,l1,rfl,el,hX,sX,h1⟩,by rw [Ic,el,<-Nat.add_assoc];exact h2⟩
theorem Mt.E6:∀ {ps qs:List (Nat×Nat×Nat)} {s:Nat} {l1 l2:List Nat},Mt lt ps s l1->Mt lt qs (s+l1.length) l2->Mt lt (ps++qs) s (l1++l2)
 | [],qs,s,l1,l2,h,h2=>by
  have h:l1=[]:=h;subst h;exact h2
 | r :: ps,qs,s,l1,l2,h,h2=>by
  obtain ⟨e,X,l',rfl,el,hX,sX,h⟩:=h;exact ⟨e,X,l'++l2,IK ..,el,hX,sX,Mt.E6 h (by rw [Ic,el,<-Nat.add_assoc] at h2;exact h2)⟩
theorem Mt.len:∀ {ps:List (Nat×Nat×Nat)} {s:Nat} {l:List Nat},Mt lt ps s l->ps.length<=l.length
 | [],s,l,h=>Jw _
 | r :: ps,s,l,h=>by
  obtain ⟨e,X,l',rfl,el,hX,sX,h⟩:=h;have:=List.length_pos_iff.mpr hX;have:=Mt.len h;rw [Ic,IH];omega
theorem Mt.mod {f:Nat×Nat×Nat->Nat×Nat×Nat} (hf:∀ r,(f r).1=r.1/\(f r).2.1=r.2.1):∀ {ps:List (Nat×Nat×Nat)} {i s:Nat} {l:List Nat},Mt lt ps s l->Mt lt (ps.modify i f) s l
 | [],i,s,l,h=>by rw [List.modify_nil];exact h
 | r :: ps,0,s,l,h=>by
  rw [List.modify_zero_cons];unfold Mt at h ⊢;rw [(hf r).1,(hf r).2];exact h
 | r :: ps,i+1,s,l,h=>by
  rw [List.modify_succ_cons];obtain ⟨e,X,l',rfl,el,hX,sX,h⟩:=h;exact ⟨e,X,l',rfl,el,hX,sX,Mt.mod hf h⟩
theorem Mt.Hz {ps:List (Nat×Nat×Nat)} {s:Nat} {l:List Nat} (h:Mt lt ps s l) (e:ps.length<=1):l.Pairwise fun x y=>lt x y=true:=by
 match ps,h,e with
 | [],h,_ =>
  have h:l=[]:=h;subst h;exact List.Pairwise.nil
 | [r],h,_ =>
  obtain ⟨e,X,l',rfl,el,hX,sX,h⟩:=h;have h:l'=[]:=h;subst h;rw [Jd];exact sX
end
section
variable {M:Model} {E:Value->Shared->Prop} {Ar:Around} {s:Shared} {F:Nat->Keyed} {lt:Nat->Nat->Bool} {N:Nat} {κ:SortKind} {l0:List Nat}
def SoI (F:Nat->Keyed) (lt:Nat->Nat->Bool) (κ:SortKind) (l0:List Nat) (k:Nat) (ps:List (Nat×Nat×Nat)) (R:List Nat) (st:SortSt):Prop :=
 ∃ l1 g,st=SortSt.mk' κ (arK F (l1++R)) ps.toArray g none/\Mt lt ps 0 l1/\l1.length=k/\(l1++R).Perm l0
variable (O:Ord lt N) (nd:l0.Nodup) (bd:∀ x∈l0,x < N) (hc:Cmp M Ar E s F lt N κ)
include O nd bd hc
theorem B3 {ps:List (Nat×Nat×Nat)} {R:List Nat} {i k:Nat} {st:SortSt} {Q:Bool->SortSt->Prop} (h:SoI F lt κ l0 k ps R st) (hi:i+1 < ps.length) (q:∀ ps' st,ps'.length+1=ps.length->SoI F lt κ l0 k ps' R st->Q true st):wpS M Ar E s (mergeAt' i) Q st:=by
 obtain ⟨l1,g,rfl,hM,hk,pm⟩:=h;obtain ⟨p1,r1,r2,p2,rfl,e1⟩:∃ p1 r1 r2 p2,ps=p1++r1 :: r2 :: p2/\p1.length=i:=by
  refine ⟨ps.take i,ps[i],ps[i+1],ps.drop (i+2),?_,by rw [Jh];omega⟩;rw [<- Jz (by omega),<-Jz (by omega),List.take_append_drop]
 obtain ⟨u,v,rfl,m1,m2⟩:=hM.app;rw [Nat.zero_add] at m2;obtain ⟨a1,X,v1,rfl,xl,hX,sX,a2,Y,v2,rfl,yl,hY,sY,m3⟩:=m2;have ea:arK F (u++(X++(Y++v2))++R)=arK F (u++(X++Y)++(v2++R)):=by simp
 rw [ea];have pm':(u++(X++Y)++(v2++R)).Perm l0:=by simpa using pm
 have ndw:(X++Y).Nodup:=by
  have:=pm'.nodup_iff.mpr nd;rw [IK] at this;exact (Jg.mp (Jg.mp this).2.1).1
 refine sN (pw:=r1.2.2) (pw2:=r2.2.2) O ndw (fun x hx=>bd x (pm'.mem_iff.mp (IL _ (Ij _ hx)))) hc ?_ ?_ hX hY sX sY fun Z g' sZ pZ=>?_
 ·rw [K5,<-e1,Ii (Iv _),KC,<-a1,xl];rfl
 ·rw [K5,<-e1,Ii (by omega),J4,yl,xl,<-a2];rfl
 ·have hl:Z.length=X.length+Y.length:=by rw [pZ.length_eq,Ic]
  refine q (p1++(u.length,X.length+Y.length,r1.2.2) :: p2) _ ?_ ⟨u++(Z++v2),g',?_,?_,?_,?_⟩
  ·simp only [Ic,IH];omega
  ·have e2:(((p1++r1 :: r2 :: p2).toArray.setIfInBounds i (u.length,X.length+Y.length,r1.2.2)).eraseIdxIfInBounds (i+1))=(p1++(u.length,X.length+Y.length,r1.2.2) :: p2).toArray:=by
    apply Array.toList_inj.mp;rw [Array.toList_eraseIdxIfInBounds,Array.toList_setIfInBounds,<-e1];simp [List.eraseIdx_append_of_length_le]
   rw [e2];simp
  ·refine m1.E6 ⟨by rw [Nat.zero_add],Z,v2,rfl,hl,fun e=>?_,sZ,?_⟩
   ·rw [e,JL] at hl;have:=List.length_pos_iff.mpr hX;omega
   ·rw [Nat.zero_add,xl,yl,<-Nat.add_assoc];exact m3
  ·simp only [Ic] at hk ⊢;omega
  ·refine List.Perm.trans ?_ pm';rw [show u++(Z++v2)++R=u++Z++(v2++R) by simp];exact List.Perm.append_right _ (Kb _ pZ)
omit O nd bd hc
def sr3 (size lo n:Nat):StateT SortSt Sem (ForInStep (Option Unit×Nat)):=do
 let st<-get
 match (pendingOf st).back? with
 | some (s1,n1,_)=>do
  let c<-forIn [0:size] ((none,()):Option Unit×Unit) fun _ _=>do
   let st<-get
   match (if (pendingOf st).size > 1 then (pendingOf st)[(pendingOf st).size - 2]? else none) with
   | some (_,_,older) =>
    if older<=power' size (2*s1+n1) (2*s1+n1+n1+n) size then pure (.done (none,()))
    else do
     let b<-mergeAt' ((pendingOf st).size - 2)
     if (!b)=true then pure (.done (some (),())) else pure (.yield (none,()))
   | _=>pure (.done (none,()))
  match c.1 with
  | some r=>pure (.done (some r,lo))
  | none=>do
   modify fun s=>setPending s ((pendingOf s).modify ((pendingOf s).size - 1) fun x=>(x.1,x.2.1,power' size (2*s1+n1) (2*s1+n1+n1+n) size))
   modify fun s=>setPending s ((pendingOf s).push (lo,n,0))
   pure (.yield (none,lo+n))
 | _=>do
  modify fun s=>setPending s ((pendingOf s).push (lo,n,0))
  pure (.yield (none,lo+n))
include O nd bd hc
theorem AF {ps:List (Nat×Nat×Nat)} {S T:List Nat} {lo size:Nat} {st:SortSt} {Q:ForInStep (Option Unit×Nat)->SortSt->Prop} (h:SoI F lt κ l0 lo ps (S++T) st) (sS:S.Pairwise fun x y=>lt x y=true) (hS:1<=S.length)
  (q:∀ ps' st,SoI F lt κ l0 (lo+S.length) ps' T st->Q (.yield (none,lo+S.length)) st):wpS M Ar E s (sr3 size lo S.length) Q st:=by
 have push:∀ {ps st},SoI F lt κ l0 lo ps (S++T) st->SoI F lt κ l0 (lo+S.length) (ps++[(lo,S.length,0)]) T (setPending st ((pendingOf st).push (lo,S.length,0))):=by
  rintro ps _ ⟨l1,g,rfl,hM,hk,pm⟩;refine ⟨l1++S,g,?_,hM.E6 ⟨by rw [Nat.zero_add,hk],S,[],by rw [Jd],rfl,fun e=>by rw [e] at hS;exact absurd hS (by decide),sS,rfl⟩,by rw [Ic,hk],by rw [IK];exact pm⟩;show SortSt.mk' κ (arK F (l1++(S++T))) (ps.toArray.push _) g none=_;rw [List.push_toArray,IK]
 unfold sr3;refine IG (K0 ?_);cases e:(pendingOf st).back? with
 | none =>
  dsimp only;exact IG (Kp (IC (q _ _ (push h))))
 | some r =>
  obtain ⟨s1,n1,p1⟩:=r;dsimp only;refine IG (JM (Ju (I:=fun _ (c:Option Unit×Unit) st=>c.1=none/\∃ ps,SoI F lt κ l0 lo ps (S++T) st) (Q:=fun (c:Option Unit×Unit) st=>c.1=none/\∃ ps,SoI F lt κ l0 lo ps (S++T) st) ?_ (fun _ _ z=>z) ⟨rfl,ps,h⟩) ?_)
  ·rintro i ⟨r,⟨⟩⟩ st _ _ ⟨e,ps,h⟩;refine IG (K0 ?_);have ep:(pendingOf st).size=ps.length:=by obtain ⟨l1,g,rfl,hM,hk,pm⟩:=h;exact Iy
   split
   ·split
    ·exact IC ⟨rfl,ps,h⟩
    ·rename_i fst fst_1 older hp hold;have h1:(pendingOf st).size > 1:=by
      by_cases c:(pendingOf st).size > 1
      ·exact c
      ·rw [Im c] at hp;cases hp
     refine IG (B3 O nd bd hc h (by omega) fun ps' st' _ h'=>?_);rw [Im (by decide)];exact IC ⟨rfl,ps',h'⟩
   ·exact IC ⟨rfl,ps,h⟩
  ·rintro ⟨r,⟨⟩⟩ st ⟨e,ps,h⟩;dsimp only at e ⊢;subst e;refine IG (Kp (IG (Kp (IC (q _ _ (push (ps:=ps.modify (ps.length - 1) fun x=>(x.1,x.2.1,power' size (2*s1+n1) (2*s1+n1+n1+S.length) size)) ?_))))))
   ·obtain ⟨l1,g,rfl,hM,hk,pm⟩:=h;refine ⟨l1,g,?_,Mt.mod (f:=fun x=>(x.1,x.2.1,power' size (2*s1+n1) (2*s1+n1+n1+S.length) size)) (fun _=>⟨rfl,rfl⟩) hM,hk,pm⟩;show SortSt.mk' κ (arK F (l1++(S++T))) (ps.toArray.modify (ps.toArray.size - 1) _) g none=_;congr 1;rw [Iy,List.modify_toArray]
theorem AB {p0:List Nat} {g:Nat} {Q:Unit->SortSt->Prop} (h0:p0.Perm l0) (h:∀ l g ps,l.Perm l0->l.Pairwise (fun x y=>lt x y=true)->Q () (SortSt.mk' κ (arK F l) ps g none)) :
  wpS M Ar E s sortRuns' Q (SortSt.mk' κ (arK F p0) #[] g none):=by
 have hl0:=h0.length_eq;rw [sortRuns'_eq];refine IG (K0 ?_);rw [show (arrOf (SortSt.mk' κ (arK F p0) #[] g none)).size=l0.length by rw [<- hl0];exact bH];dsimp only;generalize minRun' l0.length l0.length 0=mr;refine IG (JM (Ju (I:=fun i (c:Option Unit×Nat) st=>c.1=none/\i<=c.2/\∃ ps R,SoI F lt κ l0 c.2 ps R st) (Q:=fun (c:Option Unit×Nat) st=>c.1=none/\∃ ps,SoI F lt κ l0 l0.length ps [] st) ?_ ?_ ⟨rfl,Iv _,[],p0,[],g,rfl,rfl,rfl,h0⟩) ?_)
 ·rintro i ⟨r,lo⟩ st _ hi ⟨e,h1,ps,R,h2⟩;dsimp only at e h1 h2 ⊢;subst e;by_cases c:lo>=l0.length
  ·rw [Ip c];refine IC ⟨rfl,ps,?_⟩;obtain ⟨l1,g,rfl,hM,hk,pm⟩:=h2;have:=pm.length_eq;rw [Ic] at this;have e0:R=[]:=IV (by omega);subst e0;exact ⟨l1,g,rfl,hM,by rw [JL] at this;omega,pm⟩
  rw [Im c];obtain ⟨l1,g,rfl,hM,rfl,pm⟩:=h2;have hlen:=pm.length_eq;rw [Ic] at hlen;have nd1:=pm.nodup_iff.mpr nd;refine IG (w_count O hc (fun x hx=>bd x (pm.mem_iff.mp hx)) (Jg.mp nd1).2.1 (by omega) (by omega) fun S T pS sS hS=>?_);dsimp only;have pm2:(l1++(S++T)).Perm l0:=(Kb _ pS).trans pm;have hlen2:=pS.length_eq;rw [Ic] at hlen2;have bc:∀ {α β:Type} {m m':StateT SortSt Sem α} {f f':α->StateT SortSt Sem β},m=m'->f=f'->(m>>=f)=(m'>>=f'):=by rintro _ _ _ _ _ _ rfl rfl;rfl
  have use:∀ {m m':StateT SortSt Sem (ForInStep (Option Unit×Nat))} {Q:ForInStep (Option Unit×Nat)->SortSt->Prop} {st:SortSt},m=m'->wpS M Ar E s m' Q st->wpS M Ar E s m Q st:=by rintro _ _ _ _ rfl z;exact z
  by_cases c2:S.length < mr
  ·rw [Ip c2];refine IG (wpS_lift (JK ⟨rfl,?_⟩));refine IG (Gj (R:=R) O hc (fun x hx=>bd x (pm2.mem_iff.mp hx)) (Jg.mp (pm2.nodup_iff.mpr nd)).2.1 rfl hS (by omega) (by rw [Ic];omega) sS fun S' T' pS' sS' hS'=>?_);rw [Im (by decide),<-hS'];refine use (m':=sr3 l0.length l1.length S'.length) ?_ (JM (AF O nd bd hc (S:=S') (T:=T') (size:=l0.length) ⟨l1,g,rfl,hM,rfl,(Kb _ pS').trans pm2⟩ sS' (by omega) (Q:=fun r st=>∃ ps' n R,1<=n/\r=.yield (none,l1.length+n)/\SoI F lt κ l0 (l1.length+n) ps' R st) fun ps' st hs=>⟨ps',_,T',by omega,rfl,hs⟩) ?_)
   ·unfold sr3;refine Ke fun st=>?_;cases (pendingOf st).back? with
    | none=>rfl
    | some r =>
     obtain ⟨s1,n1,p1⟩:=r;dsimp only;refine bc ?_ ?_
     ·congr 1;try (funext _ c;refine Ke fun st=>?_;split <;> rfl)
     ·funext c;cases c.1 <;> rfl
   ·rintro _ st ⟨ps',n,R,hn,rfl,hs⟩;exact ⟨rfl,by dsimp only;omega,ps',R,hs⟩
  ·rw [Im c2];refine use (m':=sr3 l0.length l1.length S.length) ?_ (JM (AF O nd bd hc (S:=S) (T:=T) (size:=l0.length) ⟨l1,g,rfl,hM,rfl,pm2⟩ sS hS (Q:=fun r st=>∃ ps' n R,1<=n/\r=.yield (none,l1.length+n)/\SoI F lt κ l0 (l1.length+n) ps' R st) fun ps' st hs=>⟨ps',_,T,hS,rfl,hs⟩) ?_)
   ·unfold sr3;refine Ke fun st=>?_;cases (pendingOf st).back? with
    | none=>rfl
    | some r =>
     obtain ⟨s1,n1,p1⟩:=r;dsimp only;refine bc ?_ ?_
     ·congr 1;try (funext _ c;refine Ke fun st=>?_;split <;> rfl)
     ·funext c;cases c.1 <;> rfl
   ·rintro _ st ⟨ps',n,R,hn,rfl,hs⟩;exact ⟨rfl,by dsimp only;omega,ps',R,hs⟩
 ·rintro ⟨r,lo⟩ st ⟨e,h1,ps,R,l1,g,rfl,hM,hk,pm⟩;have:=pm.length_eq;rw [Ic] at this;dsimp only at e h1 hk;have e0:R=[]:=IV (by omega);subst e0;exact ⟨e,ps,l1,g,rfl,hM,by rw [JL] at this;omega,pm⟩
 ·rintro ⟨r,lo⟩ st ⟨e,ps,hs⟩;dsimp only at e ⊢;subst e;have hps:ps.length<=l0.length:=by obtain ⟨l1,g,rfl,hM,hk,pm⟩:=hs;rw [<- hk];exact hM.len
  refine IG (JM (Ju (I:=fun i (c:Option Unit×Unit) st=>c.1=none/\∃ ps,ps.length<=l0.length - i/\SoI F lt κ l0 l0.length ps [] st) (Q:=fun (c:Option Unit×Unit) st=>c.1=none/\∃ ps,ps.length<=1/\SoI F lt κ l0 l0.length ps [] st) ?_ ?_ ⟨rfl,ps,hps,hs⟩) ?_)
  ·rintro i ⟨r,⟨⟩⟩ st _ hi ⟨e,ps,hp,hs⟩;refine IG (K0 ?_);have ep:(pendingOf st).size=ps.length:=by obtain ⟨l1,g,rfl,hM,hk,pm⟩:=hs;exact Iy
   by_cases c:(pendingOf st).size<=1
   ·rw [Ip c];exact IC ⟨rfl,ps,by omega,hs⟩
   ·rw [Im c];refine IG (B3 O nd bd hc hs ?_ fun ps' st' hl h'=>?_)
    ·have:∀ c:Bool,(if c=true then (pendingOf st).size - 2 - 1 else (pendingOf st).size - 2)+1 < ps.length:=fun c=>by cases c <;> simp <;> omega
     exact this _
    ·rw [Im (by decide)];exact IC ⟨rfl,ps',by omega,h'⟩
  ·rintro ⟨r,⟨⟩⟩ st ⟨e,ps,hp,hs⟩;exact ⟨e,ps,by omega,hs⟩
  ·rintro ⟨r,⟨⟩⟩ st ⟨e,ps,hp,hs⟩;dsimp only at e ⊢;subst e;obtain ⟨l1,g,rfl,hM,hk,pm⟩:=hs;rw [Jd] at pm ⊢;exact IC (h l1 g _ pm (hM.Hz hp))
end
end L2
end
section
namespace L2
open PySem PySem.Spec PyProof.Rows PySem.W
theorem vq {P:Program} {w:World} {A:Around} {E:Value->Shared->Prop} {s:Shared} {vs ks:List Value} {κ:SortKind} {lt:Nat->Nat->Bool} {Q:SortSt->Shared->Prop} (hl:ks.length=vs.length)
  (hc:∀ i j (C:Bool->Shared->Prop),i < vs.length->j < vs.length->C (lt i j) s->kas_ask P w A κ ks i j C s) (O:Ord lt vs.length)
  (h:∀ p st',p.size=vs.length->arrOf st'=p.map (kas_item (ks.toArray.zip vs.toArray))->failedOf st'=none->Pm vs.length p->Up lt p vs.length->Q st' s) :
  wpAny (model P w) A ((sortRuns').run (SortSt.mk' κ (ks.toArray.zip vs.toArray) #[] 7 none)) (fun r s'=>Q r.2 s') E s:=by
 have e:=kas_range (ks.toArray.zip vs.toArray);rw [show (ks.toArray.zip vs.toArray).size=vs.length by simp [hl]] at e;have est:SortSt.mk' κ (ks.toArray.zip vs.toArray) #[] 7 none=SortSt.mk' κ (arK (kas_item (ks.toArray.zip vs.toArray)) (List.range vs.length)) #[] 7 none:=by
  congr 1;rw [<- e];simp only [arK,e];rw [<- List.map_toArray,e]
 rw [est];have hcm:Cmp (model P w) A E s (kas_item (ks.toArray.zip vs.toArray)) lt vs.length κ:=by
  intro i j C st hk hi hj hC;rw [lt'_eq];refine IG (K0 ?_);rw [hk,kat_item hl,kat_item hl];refine IG (wpS_lift (wpAny_attempt (Jb (hc i j (fun b s'=>b=lt i j/\s'=s) hi hj ⟨rfl,rfl⟩) (fun b s' hb=>?_) fun _ _ z=>z.elim)));obtain ⟨rfl,rfl⟩:=hb;exact ⟨rfl,IC hC⟩
 have:=AB (M:=model P w) (Ar:=A) (E:=E) (s:=s) (g:=7) (p0:=List.range vs.length) (Q:=fun _ st=>Q st s) O List.nodup_range (fun x hx=>List.mem_range.mp hx) hcm (J6 _) fun l g ps pl sl=>h l.toArray _ (by rw [Iy,pl.length_eq,Js]) (by simp [arK]) rfl (KJ.mpr pl) fun i hi=>?_
 ·exact Jb this (fun r s' z=>by obtain ⟨rfl,z⟩:=z;exact z) fun _ _ z=>z
 ·have hll:l.length=vs.length:=by rw [pl.length_eq,Js]
  have:=Jy.mp sl i (i+1) (by omega) (by omega) (Kg _);unfold at_;rw [KD,KD,K5,K5,Ia (by omega),Ia (by omega)];exact this
end L2
end
section
namespace L2
open PySem PySem.Spec PyProof.Rows PySem.W
section
variable {P:Program} {w:World} {A:Around} {E:Value->Shared->Prop} {s:Shared} {a kS:Addr} {vs ks:List Value} {f:Value} {e1:Nat} {R:PySem.Fin->Shared->Prop}
theorem C2 {n:Nat} {J:List Value->Shared->Prop} {body:Value->PUnit->Sem (ForInStep PUnit)}
  (hb:∀ x ks (s:Shared),ks.length < n->vs[ks.length]?=some x->J ks s->wpAny (model P w) A (body x ⟨⟩) (fun r s'=>r=.yield ⟨⟩/\∃ k,J (ks++[k]) s') E s):∀ (r ks:List Value) (s:Shared),ks.length+r.length=n->vs.drop ks.length=r->J ks s ->
   wpAny (model P w) A (forIn r PUnit.unit body) (fun _ s'=>∃ ks,ks.length=n/\J ks s') E s
 | [],ks,s,hl,hr,h=>by
  rw [List.forIn_nil];exact Il ⟨ks,by simpa using hl,h⟩
 | x :: r,ks,s,hl,hr,h=>by
  rw [IH] at hl;rw [List.forIn_cons];have hx:vs[ks.length]?=some x:=by
   have:(vs.drop ks.length)[0]?=some x:=by rw [hr];rfl
   rwa [List.getElem?_drop,Nat.add_zero] at this
  refine Ib (Jb (hb x ks s (by omega) hx h) (fun q s' hq=>?_) fun _ _ x=>x);obtain ⟨rfl,k,h2⟩:=hq;refine C2 hb r (ks++[k]) s' (by rw [Ic,Ku];omega) ?_ h2;rw [Ic,Ku,<-List.drop_drop,hr];rfl
theorem Es {J:List Value->Shared->Prop} (h64:vs.length < 4096)
  (step:∀ x ks (s:Shared),vs[ks.length]?=some x->ks.length < 4096->J ks s->wpAny (model P w) A (call f [x]) (fun k s'=>(∃ e,s'.heap.get? kS=some (seqObj "list" (List.toArray ks) e))/\J (ks++[k]) { s' with heap:=s'.heap.update kS (Obj.mapSeq (·.push k)) }) (fun _ _=>False) s)
  (hJ:∀ ks s,J ks s->∃ e,s.heap.get? kS=some (seqObj "list" (List.toArray ks) e))
  (fin:∀ ks (s:Shared),ks.length=vs.length->J ks s->wpAny (model P w) A (ksk_end a false vs.toArray e1 (.ref kS) (List.toArray ks)) R E s) (h:J [] s) :
  wpAny (model P w) A (ksk_rest a f false vs.toArray e1 (.ref kS)) R E s:=by
 unfold ksk_rest;refine Ib (JK ?_);rw [List.forIn_toArray];refine Ib (Jb (C2 (n:=vs.length) (vs:=vs) (J:=J) (fun x ks s' hl hx hj=>?_) vs [] s (by simp) (by simp) h) (fun _ s' hd=>?_) fun _ _ x=>x)
 ·refine Ib (wpAny_attempt (Jb (step x ks s' hx (by omega) hj) (fun k s'' hk=>?_) fun _ _ hF=>hF.elim));obtain ⟨⟨e,g⟩,hj'⟩:=hk;try dsimp only
  refine Ib (listUpdate_at g rfl ?_ (by rw [Iy,JQ];omega) (IY (Nat.le_of_eq (Array.size_push ..)) (by rw [Iy,JQ];omega)));exact Il ⟨rfl,k,hj'⟩
 ·obtain ⟨ks,hl,hj⟩:=hd;obtain ⟨e,g⟩:=hJ ks s' hj;try dsimp only
  refine Ib (listItems_at g rfl ?_);exact fin ks s' hl hj
theorem Bt {st:SortSt} {e:Nat} {out:List Value} (hout:(arrOf st).map (·.2)=List.toArray out) (hz:out.length < 4096) (hkz:ks.length < 4096) (hf:failedOf st=none) (hne:a≠kS)
  (gk:s.heap.get? kS=some (seqObj "list" (List.toArray ks) e)) (ga:s.heap.get? a=some (seqObj "list" #[] e1))
  (h:R (.done (.ret .none)) { s with heap:=(s.heap.update kS (Obj.mapSeq fun _=>(#[]:Array Value))).update a (Obj.mapSeq fun _=>List.toArray out) }):wpAny (model P w) A (ksk_tail a false e1 (.ref kS) st) R E s:=by
 have ga':(s.heap.update kS (Obj.mapSeq fun _=>(#[]:Array Value))).get? a=some (seqObj "list" #[] e1):=(J8 _ _ (Ne.symm hne)).trans ga;unfold ksk_tail;try dsimp only
 rw [hout];refine Ib (listUpdate_at gk rfl ?_ (by rw [Iy,JQ];omega) (Jw _));refine Ib (wpAny_letGo ?_);refine Ib (seqEpoch_at ga' rfl ?_);refine Ib (listUpdate_at ga' rfl ?_ (Jw _) (by show (List.toArray out).size<=_;rw [Iy,JQ];omega));rw [hf];simp only [bne_self_eq_false,Kr,Kk];exact Il h
theorem HJ {e:Nat} {κ:SortKind} {lt:Nat->Nat->Bool} (hl:ks.length=vs.length) (h64:vs.length < 4096) (hne:a≠kS)
  (gk:s.heap.get? kS=some (seqObj "list" (List.toArray ks) e)) (ga:s.heap.get? a=some (seqObj "list" #[] e1))
  (hk:2<=vs.length->∀ Q:SortKind->Shared->Prop,Q κ s->wpAny (model P w) A (keyKind' (List.toArray ks)) Q (fun _ _=>False) s)
  (hc:∀ i j (C:Bool->Shared->Prop),i < vs.length->j < vs.length->C (lt i j) s->kas_ask P w A κ ks i j C s) (O:Ord lt vs.length)
  (h:∀ p,Pm vs.length p->Up lt p vs.length->R (.done (.ret .none)) { s with heap:=(s.heap.update kS (Obj.mapSeq fun _=>(#[]:Array Value))).update a (Obj.mapSeq fun _=>List.toArray (p.toList.map fun i=>vs.getD i Value.none)) }) :
  wpAny (model P w) A (ksk_end a false vs.toArray e1 (.ref kS) (List.toArray ks)) R E s:=by
 unfold ksk_end;dsimp only;rw [Im IE,Im IE];by_cases h2:vs.length < 2
 ·have hs:vs.toArray.size < 2:=by rw [Iy];exact h2
  rw [Ip hs,Ip hs];refine Ib (Il ?_);show wpAny _ _ (pure (PUnit.unit,SortSt.mk' general' (ks.toArray.zip vs.toArray) #[] 7 none)>>=_) _ _ _;refine Ib (Il ?_);dsimp only;have er:(List.toArray (List.range vs.length)).map (kas_item (ks.toArray.zip vs.toArray))=ks.toArray.zip vs.toArray:=by
   have e:=kas_range (ks.toArray.zip vs.toArray)
   rwa [show (ks.toArray.zip vs.toArray).size=vs.length by simp [hl]] at e
  refine Bt (st:=SortSt.mk' general' (ks.toArray.zip vs.toArray) #[] 7 none) (kat_snds hl (p:=(List.range vs.length).toArray) er.symm) (by simpa using h64) (by omega) rfl hne gk ga (h _ (Array.Perm.refl _) fun i hi=>by omega)
 ·have hs:¬vs.toArray.size < 2:=by rw [Iy];exact h2
  rw [Im hs,Im hs];refine Ib (Jb (hk (by omega) (fun κ' s'=>κ'=κ/\s'=s) ⟨rfl,rfl⟩) (fun κ' s0 hk'=>?_) fun _ _ x=>x.elim);obtain ⟨rfl,rfl⟩:=hk'
  refine Ib (Jb (vq (Q:=fun st' s'=>∃ p:Array Nat,p.size=vs.length/\arrOf st'=p.map (kas_item (ks.toArray.zip vs.toArray))/\failedOf st'=none/\(Pm vs.length p/\Up lt p vs.length)/\s'=s0)
   hl hc O fun p st' a1 a2 a3 a4 a5=>⟨p,a1,a2,a3,⟨a4,a5⟩,rfl⟩) ?_ fun _ _ x=>x)
  rintro ⟨⟨⟩,st'⟩ s' ⟨p,hp,har,hf,⟨h1,h2'⟩,rfl⟩;dsimp only;exact Bt (kat_snds hl har) (by rw [Ig,JN,hp];exact h64) (by omega) hf hne gk ga (h p h1 h2')
theorem Bv {d g:Addr} {es:Array DictEntry} {ep:Nat} {Q:Value->Shared->Prop} (hh:A.handled=none) (lo:(d==sysModules)=false) (ok:OkD d es ep s.heap) (hz:es.size < 4096)
  (h:∀ vs D kS e1 h' tk,vs=es.toList.map (·.key)->s.heap.objs.size<=D->D < kS->(∀ b o,s.heap.get? b=some o->h'.get? b=some o)->h'.get? D=some (seqObj "list" #[] e1)->h'.get? kS=some (seqObj "list" #[] 0) ->
   ∀ R:PySem.Fin->Shared->Prop,(∀ s',Q (.ref D) s'->R (.done (.ret .none)) s')->wpAny (model P w) A.in1.in1 (ksk_rest D (.ref g) false vs.toArray e1 (.ref kS)) R (fun _ _=>False) { s with heap:=h',toks:=tk }) :
  wpAny (model P w) A (call (.builtin "sorted") [.ref d] [(Str.ofString "key", .ref g)]) Q E s:=by
 refine call_function_entry_kw kind_sorted plain_sorted entry_sorted (ksk_s1 _ _) ?_;unfold Builtin.«sorted»
 refine Ib (m:=checkCount "sorted" 1 1 _) (Il ?_);refine Ib (DH hh lo ok (by rw [JQ];omega) fun vs h1 tk ev hsz hk=>?_);have hvl:vs.length < 4096:=by rw [ev,Ig,JN];exact hz
 refine Ib (wpAny_newList ?_ (by rw [JQ];omega));have hoL:(h1.push (seqObj "list" vs.toArray 0)).get? h1.objs.size=some (seqObj "list" vs.toArray 0):=IX _ rfl;refine Ib (J2 (wpAny_call_entry_kw slot_list_sort ⟨_,hoL,rfl⟩ entry_list_sort ?body (ksk_l1 _ _)))
 case body =>
  show wpAny (model P w) A.in1.in1 (Builtin.«list.sort» ⟨[.ref h1.objs.size],[(Str.ofString "key", .ref g)]⟩) _ _ _
  rw [ksk_t1];unfold ksk_tree;obtain ⟨e1,ho1⟩:∃ e1,((h1.push (seqObj "list" vs.toArray 0)).update h1.objs.size (Obj.mapSeq fun _=>(#[]:Array Value))).get? h1.objs.size=some (seqObj "list" #[] e1):=⟨_,get?_update_seq hoL fun _=>#[]⟩;refine Ib (listItems_at hoL rfl ?_);refine Ib (listUpdate_at hoL rfl ?_ (by rw [Iy,JQ];omega) (Jw _));refine Ib (seqEpoch_at ho1 rfl ?_);refine Ib (wpAny_newTuple ?_ (by show vs.length<=_;rw [JQ];omega));refine Ib (wpAny_newList ?_ (Jw _));refine J2 ?_;have hks:(((h1.push (seqObj "list" vs.toArray 0)).update h1.objs.size (Obj.mapSeq fun _=>(#[]:Array Value))).push (seqObj "tuple" vs.toArray 0)).objs.size=h1.objs.size+2:=by
   rw [size_push',Heap.size_update,size_push']
  refine Jb (h vs h1.objs.size (((h1.push (seqObj "list" vs.toArray 0)).update h1.objs.size (Obj.mapSeq fun _=>(#[]:Array Value))).push (seqObj "tuple" vs.toArray 0)).objs.size e1
   ((((h1.push (seqObj "list" vs.toArray 0)).update h1.objs.size (Obj.mapSeq fun _=>(#[]:Array Value))).push (seqObj "tuple" vs.toArray 0)).push (seqObj "list" #[] 0)) tk ev (K1 hsz) (by rw [hks];exact Nat.lt_succ_of_lt (Kg _)) (fun b o e=>?_)
   (Iw _ (Iw _ ho1)) (IX _ rfl) _ fun s' hq=>?_) (fun _ _ z=>z) fun _ _ z=>z.elim
  ·have hb:b≠h1.objs.size:=Jf (IF (hk b o e));exact Iw _ (Iw _ ((J8 _ _ (Ne.symm hb)).trans (Iw _ (hk b o e))))
  ·exact ⟨_,rfl,Il ⟨_,rfl,hq⟩⟩
end
end L2
end
section
namespace L2
open PySem PySem.Spec PyProof.Rows PySem.W
abbrev Ky:=Int×Int×Str
def ltK (x y:Ky):Bool:=if x.1=y.1 then (if x.2.1=y.2.1 then decide (x.2.2.cps.toList < y.2.2.cps.toList) else decide (x.2.1 < y.2.1)) else decide (x.1 < y.1)
section
variable {P:Program} {w:World} {A:Around} {E:Value->Shared->Prop} {s:Shared}
end
theorem uq (x:Ky):ltK x x=false:=by
 unfold ltK;rw [Ip rfl,Ip rfl];exact IU (List.lt_irrefl _)
theorem BX {x y z:Ky} (h1:ltK x y=true) (h2:ltK y z=true):ltK x z=true:=by
 unfold ltK at *;split at h1 <;> split at h2
 ·rename_i a b;rw [Ip (a.trans b)];split at h1 <;> split at h2
  ·rename_i c d;rw [Ip (c.trans d)];exact IP (List.lt_trans (Jm h1) (Jm h2))
  ·rename_i c d;rw [Im (by rw [c];exact d),c];exact h2
  ·rename_i c d;rw [Im (by rw [<- d];exact c),<-d];exact h1
  ·have:=Jm h1;have:=Jm h2;rw [Im (by omega)];exact IP (by omega)
 ·rename_i a b;rw [Im (by rw [a];exact b),a];exact h2
 ·rename_i a b;rw [Im (by rw [<- b];exact a),<-b];exact h1
 ·have:=Jm h1;have:=Jm h2;rw [Im (by omega)];exact IP (by omega)
theorem yU {x y:Ky} (hn:x≠y) (h:ltK x y=false):ltK y x=true:=by
 obtain ⟨x1,x2,x3⟩:=x;obtain ⟨y1,y2,y3⟩:=y;unfold ltK at *;dsimp only at *;split at h
 ·rename_i a;rw [Ip a.symm];split at h
  ·rename_i b;rw [Ip b.symm];refine IP ?_;have h:=J7 h
   have:y3.cps.toList≠x3.cps.toList:=fun z=>hn (by
    have:y3=x3:=by cases x3;cases y3;simpa using Array.toList_inj.mp z
    rw [a,b,this])
   exact Ki fun n=>this (List.le_antisymm (List.not_lt.mp h) (List.not_lt.mp n))
  ·rename_i b;have h:=J7 h;rw [Im (fun z=>b z.symm)];exact IP (by omega)
 ·rename_i a;have h:=J7 h;rw [Im (fun z=>a z.symm)];exact IP (by omega)
end L2
end
section
namespace L2
open PySem PySem.Spec PyProof.Rows PySem.W
section
variable {X:Cx} {pins:List (Addr×Obj)} {σ:List (Option V)} {H:Hp} {s:Shared} {h':Heap}
theorem Inv.uU {a:Addr} {o:Obj} (I:Inv X ((a,o) :: pins) σ H s):∀ x c,X.env.cells.lookup x=some c->c≠a:=fun x c e z=>by
 obtain ⟨g,_,_,_,n⟩:=I.pin (a,o) (Ij _ Ik);obtain ⟨v,oc,h1,h2⟩:=I.cell x c e;subst z;rw [g] at h1;cases h1;first | exact n _ h2 | exact n _ h2.1 | exact n _ h2.2
theorem Inv.vQ {p:Addr×Obj} (I:Inv X (p :: pins) σ H s):Inv X pins σ H s:=I.cP fun q hq=>I.pin q (Ij _ (Io _ hq))
theorem Inv.D2 {a:Addr} {o o':Obj} (I:Inv X ((a,o) :: pins) σ H s) (ha:X.s₀.heap.objs.size<=a) (hp:∀ p∈X.pn++pins,p.1≠a) (hs:∀ b u,b≠a->s.heap.get? b=some u->h'.get? b=some u) (g':h'.get? a=some o') (hc:∀ v,o'.data≠.cell v) :
  Inv X ((a,o') :: pins) σ H { s with heap:=h' }:=by
 obtain ⟨g,n,L,f,_⟩:=I.pin (a,o) (Ij _ Ik);have I2:Inv X pins σ H { s with heap:=h' }:=I.vQ.turned (t':=s.toks) hs n L (.inr ha) I.uU hp;refine I2.cP fun p hp=>?_;rcases Iz.mp hp with rfl | hp
 ·exact ⟨g',n,L,f,hc⟩
 ·exact I2.pin p (Ij _ hp)
theorem Inv.HC {D k:Addr} {o:HO} (I:Inv X pins σ H s) (hD:X.s₀.heap.objs.size<=D) (hk:X.s₀.heap.objs.size<=k) (nD:H D=none) (nk:H k=none) (LD:D≠X.env.locals) (Lk:k≠X.env.locals)
  (cD:∀ x c,X.env.cells.lookup x=some c->c≠D) (ck:∀ x c,X.env.cells.lookup x=some c->c≠k) (pD:∀ p∈X.pn++pins,p.1≠D) (pk:∀ p∈X.pn++pins,p.1≠k)
  (hs:∀ b u,b≠D->b≠k->s.heap.get? b=some u->h'.get? b=some u) (new:bN X.prog X.w (upd H D o) h' D o):Inv X pins σ (upd H D o) { s with heap:=h' }:=by
 have nd:∀ b u,H b=some u->b≠D:=fun b u e z=>by rw [z,nD] at e;cases e
 have nk':∀ b u,H b=some u->b≠k:=fun b u e z=>by rw [z,nk] at e;cases e
 have hc:∀ b,b ∉ [D,k]->b≠D/\b≠k:=fun b hb=>⟨fun z=>hb (by simp [z]),fun z=>hb (by simp [z])⟩;refine I.step (t':=s.toks) (g':=s.gens) (d':=s.drawn) (ch:=[D,k]) (fun b hb=>?_) (fun b o _ _ hb e _=>hs b o (hc b hb).1 (hc b hb).2 e) (fun b o _ _ hb e _=>⟨o.slots,hs b o (hc b hb).1 (hc b hb).2 e⟩) (fun b o hb _ n=>by rw [aA (hc b hb).1];exact n)
  (fun b o hb e=>⟨o,hs b o (hc b hb).1 (hc b hb).2 e⟩) (fun b xs e=>by rw [aA (nd b _ e)];exact e) (fun b o u e=>by rw [aA (nd b _ e)];exact e) (fun b ps e=>⟨#[],by rw [aA (nd b _ e),e];simp⟩) (fun m hm=>?_) (fun b u e=>?_) I.bare
 ·rcases Iz.mp hb with rfl | hb
  ·exact ⟨.inr hD,LD,cD,pD⟩
  ·rw [Iq.mp hb];exact ⟨.inr hk,Lk,ck,pk⟩
 ·obtain ⟨o,es,ep,ho,r⟩:=hm;exact ⟨o,es,ep,hs _ o (Ne.symm LD) (Ne.symm Lk) ho,r⟩
 ·by_cases z:b=D
  ·subst z;rw [aF] at e;cases e;exact new
  ·rw [aA z] at e;refine (I.hok b u e).lI (fun c v hc q=>?_) (fun c q=>by rw [aA (nd c _ q)];exact q) fun c xs q=>by rw [aA (nd c _ q)];exact q
   rcases hc with rfl | hc
   ·exact hs _ _ z (nk' _ _ e) q
   ·exact hs _ _ (nd c _ hc) (nk' c _ hc) q
end
end L2
end
section
namespace L2
open PySem PySem.Spec PyProof.Rows PySem.W
def valAt (xs:List (PyData×V×V)) (i:Nat):V:=((xs[i]?).map (·.2.1)).getD .non
abbrev Cx.in2 (X:Cx):Cx:={ X with A:=X.A.in1.in1,xe:=fun _ _=>False }
section
variable {X:Cx} {pins:List (Addr×Obj)} {σ:List (Option V)} {H:Hp} {s:Shared}
theorem Inv.in2 (I:Inv X pins σ H s):Inv X.in2 pins σ H s :=
 ⟨⟨I.ok.mod,I.ok.kind,I.ok.glob,I.ok.blt,I.ok.above,I.ok.inj,I.ok.has,I.ok.cab,I.ok.hd,I.ok.frames,I.ok.stk,I.ok.exf,I.ok.bs,I.ok.bsz,I.ok.wB,I.ok.xa,I.ok.nt,I.ok.frf⟩,I.os,I.bare,I.base,I.loc,I.cell,I.free,I.fg,I.pin,I.hok,I.len⟩
theorem Inv.Hi (I:Inv X.in2 pins σ H s):Inv X pins σ H s :=
 ⟨⟨I.ok.mod,I.ok.kind,I.ok.glob,I.ok.blt,I.ok.above,I.ok.inj,I.ok.has,I.ok.cab,I.ok.hd,I.ok.frames,I.ok.stk,I.ok.exf,I.ok.bs,I.ok.bsz,I.ok.wB,I.ok.xa,I.ok.nt,I.ok.frf⟩,I.os,I.bare,I.base,I.loc,I.cell,I.free,I.fg,I.pin,I.hok,I.len⟩
end
end L2
end
section
namespace L2
open PySem PySem.Spec PyProof.Rows PySem.W
section
variable {X:Cx} {k:Nat} {g:Addr} {fd:FuncData} {ps:List Str} {sp:Sp} {f:Str} {p pf pos kpos:Pos} {e:Expr} {te:TE}
end
end L2
end
section
namespace L2
open PySem PySem.Spec PyProof.Rows
theorem DmP.get {K:Fg} {F:Addr->Prop} {H:Hp}:∀ {kvs:List (PyData×PyData)} {xs:List (PyData×V×V)} {i:Nat} {x:PyData×V×V},DmP K F H kvs xs->xs[i]?=some x->(kvs.map (·.1))[i]?=some x.1/\Dm K F H x.1 x.2.1
 | [],xs,i,x,h,e=>by rw [show xs=[] from h] at e;simp at e
 | (k,d) :: kvs,xs,i,x,h,e=>by
  obtain ⟨j,v,r,rfl,h1,h2,h3,h4⟩:=h;cases i with
  | zero=>simp at e;subst e;exact ⟨rfl,h2⟩
  | succ i=>have:=DmP.get h4 (show r[i]?=some x by simpa using e);exact ⟨by simpa using this.1,this.2⟩
theorem DmP.fk {K:Fg} {F:Addr->Prop} {H:Hp}:∀ {kvs:List (PyData×PyData)} {xs:List (PyData×V×V)},DmP K F H kvs xs->xs.length=kvs.length
 | [],xs,h=>by rw [show xs=[] from h];rfl
 | (k,d) :: kvs,xs,h=>by
  obtain ⟨j,v,r,rfl,h1,h2,h3,h4⟩:=h;rw [IH,DmP.fk h4,IH]
section
variable {X:Cx} {k:Nat} {g:Addr} {fd:FuncData} {ps:List Str} {fn:Fn} {f:Str} {p pf pos kpos:Pos} {e:Expr} {te:TE}
end
end L2
end
section
namespace L2
open PySem PySem.Spec PyProof.Rows
inductive Lxy:List Value->List Value->Bool->Prop
 | nil:Lxy [] [] false
 | ii (a b:Int) (t u:Tok) {r q:List Value} {z:Bool} (h:Lxy r q z):Lxy (.int a t :: r) (.int b u :: q) (if a=b then z else decide (a < b))
 | ss (a b:Str) (t u:Tok) {r q:List Value} {z:Bool} (h:Lxy r q z):Lxy (.str a t :: r) (.str b u :: q) (if a=b then z else decide (a.cps.toList < b.cps.toList))
theorem Lxy.len:∀ {xs ys:List Value} {z:Bool},Lxy xs ys z->xs.length=ys.length
 | _,_,_,.nil=>rfl
 | _,_,_,.ii _ _ _ _ h=>by rw [IH,h.len,IH]
 | _,_,_,.ss _ _ _ _ h=>by rw [IH,h.len,IH]
theorem vD {x y:Value} {xs ys:List Value} {z:Bool} (h:Lxy (x :: xs) (y :: ys) z) (A:Around) (s:Shared):∃ e z',SeqAt.EqAt A s x y e/\Lxy xs ys z'/\(e=true->z=z')/\(e=false->∀ (prog:Program) (w:World) (E:Value->Shared->Prop) (Q:Value->Shared->Prop),Q (.bool z) s->wpAny (model prog w) A (richCompare .Lt x y) Q E s):=by
 cases h with
 | ii a b t u h =>
  refine ⟨(a==b),_,SeqAt.EqAt.int_int a t b u,h,fun e=>by rw [Ip (IZ.mp e)],fun e prog w E Q q=>?_⟩;rw [Im (fun z=>by rw [z,Jr] at e;cases e)] at q;exact (PyProof.Rows.lt_int q:wpAny (model prog w) A (compareOp .Lt (.int a t) (.int b u)) Q E s)
 | ss a b t u h =>
  refine ⟨(a==b),_,SeqAt.EqAt.str_str a t b u,h,fun e=>by rw [Ip (IZ.mp e)],fun e prog w E Q q=>?_⟩;rw [Im (fun z=>by rw [z,Jr] at e;cases e)] at q;exact (PyProof.Rows.lt_str q:wpAny (model prog w) A (compareOp .Lt (.str a t) (.str b u)) Q E s)
section
open PySem.SeqAt
open PySem.AutoSeq1 (wpAny_loadPart')
open PySem.MeetsSeq PySem.MeetsSeq2 PySem.MeetsSeq3
theorem uc (l b:Addr) (items items2:Array Value) (n n2:Nat) (dd dd2:Option Addr) (sl sl2:Array (Option Value)) (z:Bool) (hi:Lxy items.toList items2.toList z) :
  Meets (Builtin.«tuple.__lt__» ⟨[.ref l,.ref b],[]⟩)
   (fun _ R s=>s.heap.get? l=some { cls:=.type "tuple", dict:=dd,data:=.seq items n,slots:=sl }/\s.heap.get? b=some { cls:=.type "tuple", dict:=dd2,data:=.seq items2 n2,slots:=sl2 } /\
    R (.ok (.ret (.bool z))) s) :=
 .of_wp fun prog w A R s h=>by
  obtain ⟨hp,g,d,tk,os⟩:=s;obtain ⟨hl,hb,h⟩:=h;have f2:=AutoSeq1.sub_tuple_tuple;have zl:items.size=items2.size:=by simpa using hi.len
  wp_walk using wpAny_loadPart' hl,wpAny_loadPart' hb,Kw _ (fun rest b s'=>b.1=none/\s'=⟨hp,g,d,tk,os⟩/\∃ (vs ws:List Value) (z':Bool),rest=vs.zip ws/\Lxy vs ws z'/\R (.ok (.ret (.bool z'))) ⟨hp,g,d,tk,os⟩) _
  case turn =>
   rintro ⟨y,x⟩ rest b s' ⟨hb',rfl,vs,ws,z',hz,hv,hR⟩;cases vs with
   | nil=>rw [List.zip_nil_left] at hz;cases hz
   | cons v vs =>
    cases ws with
    | nil=>rw [List.zip_nil_right] at hz;cases hz
    | cons w1 ws =>
     rw [List.zip_cons_cons] at hz;injection hz with hyx hrest;injection hyx with hy hx;subst hy hx;obtain ⟨e,z2,he,h2,h3,h4⟩:=vD hv A.in1 ⟨hp,g,d,tk,os⟩;refine Ib (he prog w _ _ ?_);cases e with
     | true =>
      rw [h3 rfl] at hR
      wp_walk
      exact ⟨rfl,rfl,_,_,_,hrest,h2,hR⟩
     | false =>
      have hri:=h4 rfl prog w
      wp_walk using hri
      exact ⟨_,rfl,by simpa using hR⟩
  case fin =>
   rintro ⟨b1,b2⟩ s' ⟨hb',rfl,vs,ws,z',hz,hv,hR⟩;simp only at hb';subst hb';have hv:z'=decide (items.size < items2.size):=by
    cases hv with
    | nil=>exact (IU (by omega)).symm
    | ii a b t u h=>rw [List.zip_cons_cons] at hz;cases hz
    | ss a b t u h=>rw [List.zip_cons_cons] at hz;cases hz
   rw [hv] at hR
   wp_walk
   exact ⟨_,rfl,by simpa [Builtin.Tuple.tupleCompareSizes] using hR⟩
  case h =>
   exact ⟨rfl,rfl,items.toList,items2.toList,z,rfl,hi,h⟩
end
theorem xX {prog:Program} {w:World} {A:Around} {E:Value->Shared->Prop} {s:Shared} {l b:Addr} {items items2:Array Value} {z:Bool} {Q:Value->Shared->Prop} (hl:IsTup s.heap l items) (hb:IsTup s.heap b items2) (hi:Lxy items.toList items2.toList z)
  (hu:A.units < cLine) (h:Q (.bool z) s):wpAny (model prog w) A (compareOp .Lt (.ref l) (.ref b)) Q E s:=by
 obtain ⟨⟨cls,dd,data,sl⟩,ho,hc,n,hd⟩:=id hl;obtain ⟨⟨cls2,dd2,data2,sl2⟩,ho2,hc2,n2,hd2⟩:=id hb;simp only at hc hd hc2 hd2;subst hc hd hc2 hd2;exact richCompare_meets_room (op:=.Lt) ⟨_,ho,rfl⟩ ⟨_,ho2,rfl⟩ PySem.F.slot_tuple_lt PySem.F.entry_tuple_lt (PySem.F.args_tuple_lt_2 _ _) (uc l b items items2 n n2 dd dd2 sl sl2 z hi)
  ⟨ho,ho2,show Value.bool z≠Value.notImplemented/\Q (.bool z) s from ⟨(fun x=>nomatch x),h⟩⟩ hu
end L2
end
section
namespace L2
open PySem PySem.Spec PyProof.Rows
end L2
end
section
namespace L2
open PySem PySem.Spec PyProof.Rows
def G4 (avs:List AV) (e:En) (QI:List PyData->Option Nat->En->Prop):Prop:=∃ x y xs ys,avs=[x,y]/\roL e x=some xs/\roL e y=some ys/\QI ((xs.zip ys).map fun p=>.tuple [p.1,p.2]) none e
theorem HM {gd:List PyData} {as:XA} {env:En} {QI:List PyData->Option Nat->En->Prop} (h:WA gd as env fun avs e=>G4 avs e QI):WI gd (.zip as) env QI:=by
 obtain ⟨avs,e',h1,x,y,xs,ys,rfl,h3,h4,h2⟩:=h;exact ⟨_,_,_,by simp only [dI,h1,h3,h4],h2⟩
end L2
end
section
namespace L2
open PySem PySem.Spec PyProof.Rows PySem.W
structure KS where
 κ:Type
 dft:κ
 dec:DecidableEq κ
 lt:κ->κ->Bool
 irr:∀ x,lt x x=false
 tr:∀ {x y z},lt x y=true->lt y z=true->lt x z=true
 tot:∀ {x y},x≠y->lt x y=false->lt y x=true
 T:Fg->Hp->V->κ->Prop
 same:∀ {K H H' u k},T K H u k->aY H H'->T K H' u k
 Hh:Heap->Value->κ->Prop
 key:∀ {X:Cx} {pins:List (Addr×Obj)} {σ:List (Option V)} {H:Hp} {s:Shared} {v:V} {u:Value} {k:κ},Inv X pins σ H s->RelV v u->T X.K H v k->Hh s.heap u k
 ask:∀ {P:Program} {w:World} {A:Around} {E:Value->Shared->Prop} {s:Shared} {u v:Value} {a b:κ} {C:Bool->Shared->Prop},A.units+64 < cLine->Hh s.heap u a->Hh s.heap v b->C (lt a b) s->wpAny (model P w) A (keyLt' (tuples' true) u v) C E s
 kd:∀ {P:Program} {w:World} {A:Around} {E:Value->Shared->Prop} {s:Shared} {us:List Value} {Q:SortKind->Shared->Prop},(∀ u∈us,∃ k,Hh s.heap u k)->0 < us.length->Q (tuples' true) s->wpAny (model P w) A (keyKind' us.toArray) Q E s
 of:PyData->Option κ
 ofT:∀ {K:Fg} {F:Addr->Prop} {H:Hp} {d:PyData} {u:V} {k:κ},of d=some k->Dm K F H d u->T K H u k
def CP (S:KS) (ks:List S.κ) (i j:Nat):Bool:=S.lt (ks.getD i S.dft) (ks.getD j S.dft)
theorem GZ (S:KS) {ks:List S.κ} (h:ks.Nodup):Ord (CP S ks) ks.length where
 irr:=fun i=>S.irr _
 tr:=fun i j k=>S.tr
 tot:=fun i j hi hj hn e=>S.tot (fun z=>by
  rw [Jc,Jc,Ia hi,Ia hj] at z
  exact hn ((List.getElem?_inj hi h).mp (by rw [Ia hi,Ia hj];exact congrArg some z))) e
def rn (S:KS) (K:Fg) (sp:Sp):List V->Hp->VK->Prop:=fun us H Q=>∃ (d:Addr) (ep:Nat) (xs:List (PyData×V×V)) (ks:List S.κ),us=[.ref d]/\H d=some (.dD ep xs)/\xs.length < 4096/\ks.length=xs.length/\ks.Nodup /\
 (∀ (i:Nat) (x:PyData×V×V) (k:S.κ) (H':Hp),xs[i]?=some x->ks[i]?=some k->aY H H'->sp [x.2.1] H' (fun u H''=>aY H' H''/\S.T K H'' u k) E0) /\
 ∀ (H':Hp) (D:Addr) (p:Array Nat),aY H H'->H' D=none->Pm xs.length p->Up (CP S ks) p xs.length->Q (.ref D) (upd H' D (.lst (p.toList.map (valAt xs))))
section
variable {X:Cx} {pins:List (Addr×Obj)} {σ:List (Option V)} {H:Hp} {s:Shared}
theorem qQ {S:KS} {k:Nat} {g:Addr} {fd:FuncData} {ps:List Str} {sp:Sp} {us:List V} {ws:List Value} {Q:VK} (F:dN X.prog X.w X.K X.mg X.base CX0 k g fd ps sp) (hr:cj (k+2) X.A) (hb:Binds X.K fd ps [])
  (I:Inv X pins σ H s) (rw_:Vals us ws) (h:rn S X.K sp us H Q):wpAny (model X.prog X.w) X.A (call (.builtin "sorted") ws [(Str.ofString "key", .ref g)]) (EP X pins σ Q) X.xe s:=by
 obtain ⟨d,ep,xs,ks,rfl,ed,h64,kl,kn,hsp,q⟩:=h;cases rw_ with
 | cons r0 r1 =>
 cases r1;have r0:_=Value.ref d:=r0;subst r0;obtain ⟨z,hd,nd,o,es,g1,g2,g3,g4⟩:=(show bN X.prog X.w H s.heap d (.dD ep xs) from I.hok _ _ ed);have hsz:es.size=xs.length:=by rw [Paired.length g4];simp
 refine Bv hr.hd hd ⟨o,g1,g2,g3⟩ (by rw [hsz];exact h64) fun vs D kS e1 h' tk ev hD hDk keep gD gk R hR=>?_;have vl:vs.length=xs.length:=by rw [ev,Ig,JN,hsz]
 have hkS:s.heap.objs.size<=kS:=IY hD (K1 hDk);have rel:∀ (i:Nat) (x:PyData×V×V) (v:Value),xs[i]?=some x->vs[i]?=some v->RelV x.2.1 v:=by
  intro i x v hx hv;obtain ⟨en,h1,h2⟩:=gb g4 i x hx;rw [ev,IJ,h1] at hv;cases hv;exact h2.2.1
 have neD:∀ p∈X.pn++pins,p.1≠D:=fun p hp=>Jf (II (IF (I.pin p hp).1) hD);have nek:∀ p∈X.pn++pins,p.1≠kS:=fun p hp=>Jf (II (IF (I.pin p hp).1) hkS);have I0:Inv X.in2 ((kS,seqObj "list" (List.toArray []) 0) :: (D,seqObj "list" #[] e1) :: pins) σ H { s with heap:=h',toks:=tk }:=by
  have I0:=(I.kept (t':=tk) keep).in2;refine I0.cP fun p hp=>?_;rcases Iz.mp hp with rfl | hp
  ·exact ⟨gk,I.hok.fresh hkS,Nat.ne_of_gt (II I.lt hkS),I.A6 hkS,fun v z=>nomatch z⟩
  ·rcases Iz.mp hp with rfl | hp
   ·exact ⟨gD,I.hok.fresh hD,Nat.ne_of_gt (II I.lt hD),I.A6 hD,fun v z=>nomatch z⟩
   ·exact I0.pin p (Ij _ hp)
 have szD:X.s₀.heap.objs.size<=D:=IY I.sz hD;have szk:X.s₀.heap.objs.size<=kS:=IY I.sz hkS;have pk:∀ p∈X.pn++(D,seqObj "list" #[] e1) :: pins,p.1≠kS:=fun p hp=>by
  rcases Ja.mp hp with hp | hp
  ·exact nek p (IL _ hp)
  ·rcases Iz.mp hp with rfl | hp
   ·exact Jf hDk
   ·exact nek p (Ij _ hp)
 refine Es (J:=fun ks' s=>∃ H' e,Inv X.in2 ((kS,seqObj "list" (List.toArray ks') e) :: (D,seqObj "list" #[] e1) :: pins) σ H' s/\aY H H'/\∀ i u,ks'[i]?=some u->∃ v k,RelV v u/\ks[i]?=some k/\S.T X.K H' v k) (by rw [vl];exact h64) ?_ ?_ ?_ ⟨H,0,I0,aY.refl _,fun i u z=>absurd z (by rw [show (([]:List Value)[i]?)=none from List.getElem?_nil];exact nofun)⟩
 ·rintro x ks' s' hx hl ⟨H',e,I',sm,hks⟩;have hi:ks'.length < xs.length:=by rw [<- vl];exact (Ie.mp hx).1
  have hxi:=Ia hi;have hki:=Ia (show ks'.length < ks.length by rw [kl];exact hi);refine Jb (xy (X:=X.in2) (us:=[x]) (vs:=[xs[ks'.length].2.1]) F (hr.in1.in1) hb .nil aR I' (.cons (rel _ _ _ hxi hx) .nil) (hsp _ _ _ H' hxi hki sm)) (fun u s'' hu=>?_) fun _ _ z=>z;obtain ⟨v,H'',I'',rv,sm',ky⟩:=hu;have gk':=(I''.pin (kS,seqObj "list" (List.toArray ks') e) (Ij _ Ik)).1;have ea:(List.toArray ks').push u=List.toArray (ks'++[u]):=by simp
  obtain ⟨c2,hc2⟩:∃ c2,(s''.heap.update kS (Obj.mapSeq (·.push u))).get? kS=some (seqObj "list" (List.toArray (ks'++[u])) c2):=⟨_,by rw [<- ea];exact get?_update_seq gk' (·.push u)⟩;refine ⟨⟨e,gk'⟩,H'',c2,I''.D2 szk pk (fun b o hb e=>(J8 _ _ (Ne.symm hb)).trans e) hc2 (fun v z=>nomatch z),sm.trans sm',fun i w hw=>?_⟩;rw [List.getElem?_append] at hw;split at hw
  ·obtain ⟨v',k',a1,a2,a3⟩:=hks i w hw;exact ⟨v',k',a1,a2,S.same a3 sm'⟩
  ·rename_i hge;have:i=ks'.length:=by
    have:=(Ie.mp hw).1;rw [Ku] at this;omega
   subst this;rw [KC] at hw;cases hw;exact ⟨v,_,rv,hki,ky⟩
 ·rintro ks' s' ⟨H',e,I',_⟩;exact ⟨e,(I'.pin (kS,seqObj "list" (List.toArray ks') e) (Ij _ Ik)).1⟩
 ·rintro ks' s' hl ⟨H',e,I',sm,hks⟩;have gk':=I'.pin (kS,seqObj "list" (List.toArray ks') e) (Ij _ Ik);have gD':=I'.pin (D,seqObj "list" #[] e1) (Ij _ (Io _ Ik));have ky:∀ i,i < vs.length->S.Hh s'.heap (ks'.getD i Value.none) (ks.getD i S.dft):=by
   intro i hi;obtain ⟨v,k,a1,a2,a3⟩:=hks i _ (Ia (show i < ks'.length by rw [hl];exact hi));rw [Jc,Jc,a2,Ia (show i < ks'.length by rw [hl];exact hi)];exact S.key I' a1 a3
  refine HJ (κ:=tuples' true) (lt:=CP S ks) hl (by rw [vl];exact h64) (Jf hDk) gk'.1 gD'.1 (fun h2 Q' hq=>?_) (fun i j C hi hj hC=>?_) (by rw [vl,<-kl];exact GZ S kn) fun p hp hu=>hR _ ?_
  ·refine S.kd (s:=s') (us:=ks') (fun u hu=>?_) (by omega) hq;obtain ⟨i,hi⟩:=Ka.mp hu;obtain ⟨v,k,a1,a2,a3⟩:=hks i u hi;exact ⟨k,S.key I' a1 a3⟩
  ·unfold kas_ask;exact S.ask (hr.in1.in1).units (ky i hi) (ky j hj) hC
  ·have I2:Inv X pins σ H' s':=I'.vQ.vQ.Hi;rw [vl] at hp hu;have el:Vals (p.toList.map (valAt xs)) (p.toList.map fun i=>vs.getD i Value.none):=by
    have hb:∀ i∈p.toList,i < xs.length:=fun i hi=>by
     have:=(KJ.mp hp).mem_iff.mp hi;simpa using this
    revert hb;generalize p.toList=l;intro hb;induction l with
    | nil=>exact .nil
    | cons i l ih =>
     refine .cons ?_ (ih fun j hj=>hb j (Io _ hj));have hi:=hb i Ik;unfold valAt;show RelV _ (vs.getD i Value.none);rw [Ia hi,Jc,Ia (show i < vs.length by rw [vl];exact hi)];exact rel i _ _ (Ia hi) (Ia (show i < vs.length by rw [vl];exact hi))
   have gDD:((s'.heap.update kS (Obj.mapSeq fun _=>(#[]:Array Value)))).get? D=some (seqObj "list" #[] e1):=(J8 _ _ (Nat.ne_of_gt hDk)).trans gD'.1;obtain ⟨c2,hc2⟩:∃ c2,((s'.heap.update kS (Obj.mapSeq fun _=>(#[]:Array Value))).update D (Obj.mapSeq fun _=>List.toArray (p.toList.map fun i=>vs.getD i Value.none))).get? D=some (seqObj "list" (List.toArray (p.toList.map fun i=>vs.getD i Value.none)) c2):=⟨_,get?_update_seq gDD fun _=>_⟩;refine ⟨.ref D,_,I2.HC (o:=.lst (p.toList.map (valAt xs))) szD szk gD'.2.1 gk'.2.1 gD'.2.2.1 gk'.2.2.1 (I'.vQ.uU) I'.uU neD nek (fun b u b1 b2 e=>(J8 _ _ (Ne.symm b1)).trans ((J8 _ _ (Ne.symm b2)).trans e)) ⟨?_,_,c2,el,hc2⟩,rfl,q H' D p sm gD'.2.1 hp hu⟩;rw [Ig,JN,hp.size,JQ];omega
end
section
variable {X:Cx} {k:Nat} {g:Addr} {fd:FuncData} {ps:List Str} {sp:Sp} {f:Str} {p pf pos kpos:Pos} {e:Expr} {te:TE}
theorem wF {S:KS} (F:dN X.prog X.w X.K X.mg X.base CX0 k g fd ps sp) (hr:cj (k+2) X.A) (hb:Binds X.K fd ps []) (hgs:Gl X "sorted") (hms:X.mg "sorted" = none) (hv:bootBuiltins "sorted" = some (.builtin "sorted")) (hgf:Gl X f) (hmf:X.mg f=some (.ref g)) (hdf:(f==("__debug__" : Str))=false)
  (ha:PA X [e] (ae te aq)) (h1:PySem.W.isStarred e=false):PE X (.Call (.Name "sorted" p) [e] [⟨some "key", .Name f pf,kpos⟩] pos) (tCB (rn S X.K sp) (ae te aq)):=by
 intro pins s σ H Q I h;refine Kq (lK I hgs hms hv ?_ (by decide) (by decide));refine callWith_kw (thn (ha pos pins s σ H _ I h) fun us s1 ⟨vs,H1,I1,r1,q1⟩=>?_) (by rw [bj h1];rfl) (by rw [bj h1];rfl) (by rfl) (by rfl);have pk:PK X [⟨some "key", .Name f pf,kpos⟩] (ae (tC (.ref g)) aq):=zo (sC hgf hmf rfl hdf) Am;refine thn (pk pos pins s1 σ H1 (fun zs H2=>zs=[.ref g]/\H2=H1) I1 ⟨rfl,rfl⟩) fun ws s2 ⟨zs,H2,I2,rz,e1,e2⟩=>?_;subst e1 e2;cases rz with
 | cons a b =>
  cases b;have a:_=Value.ref g:=a;subst a;exact qQ F hr hb I2 r1 q1
end
namespace Sg
def Ac (S:KS) (f:Fn) (d:PyData):Option S.κ:=match f.F [d] with | some (.dat k,[])=>S.of k | _=>none
def kP (S:KS) (f:Fn):List PyData->Option (List S.κ)
 | []=>some []
 | d :: ds=>match Ac S f d,kP S f ds with | some k,some ks=>some (k :: ks) | _,_=>none
def yJ {S:KS} (x:S.κ×PyData):List (S.κ×PyData)->List (S.κ×PyData)
 | []=>[x]
 | y :: r=>if S.lt x.1 y.1=true then x :: y :: r else y :: yJ x r
def uI {S:KS}:List (S.κ×PyData)->List (S.κ×PyData)
 | []=>[]
 | x :: r=>yJ x (uI r)
theorem jB {S:KS} (x:S.κ×PyData):∀ l,(yJ x l).Perm (x :: l)
 | []=>J6 _
 | y :: r=>by
  unfold yJ;split
  ·exact J6 _
  ·exact ((jB x r).cons y).trans (List.Perm.swap ..)
theorem fT {S:KS}:∀ l:List (S.κ×PyData),(uI l).Perm l
 | []=>J6 _
 | x :: r=>(jB x _).trans ((fT r).cons x)
theorem rp {S:KS} (x:S.κ×PyData):∀ l,(∀ y∈l,x.1≠y.1)->l.Pairwise (fun a b=>S.lt a.1 b.1=true)->(yJ x l).Pairwise fun a b=>S.lt a.1 b.1=true
 | [],_,_=>by simp [yJ]
 | y :: r,hn,h=>by
  obtain ⟨h1,h2⟩:=JB.mp h;unfold yJ;split
  ·rename_i c;refine JB.mpr ⟨fun b hb=>?_,h⟩;rcases Iz.mp hb with rfl | hb
   ·exact c
   ·exact S.tr c (h1 b hb)
  ·rename_i c;refine JB.mpr ⟨fun b hb=>?_,rp x r (fun z hz=>hn z (Io _ hz)) h2⟩;rcases Iz.mp ((jB x r).mem_iff.mp hb) with rfl | hb
   ·exact S.tot (hn y Ik) (Bool.eq_false_iff.mpr c)
   ·exact h1 b hb
theorem nV {S:KS}:∀ l:List (S.κ×PyData),(l.map (·.1)).Nodup->(uI l).Pairwise fun a b=>S.lt a.1 b.1=true
 | [],_=>.nil
 | x :: r,h=>by
  obtain ⟨h1,h2⟩:=Jt.mp h;exact rp x _ (fun y hy z=>h1 (Jn.mpr ⟨y,(fT r).mem_iff.mp hy,z.symm⟩)) (nV r h2)
theorem vA {S:KS} {ks:List S.κ} {ds:List PyData} {p:Array Nat} (hl:ks.length=ds.length) (hn:ks.Nodup) (hp:Pm ds.length p) (hu:Up (CP S ks) p ds.length):(uI (ks.zip ds)).map (·.2)=p.toList.map fun i=>ds.getD i .none:=by
 have e1:(ks.zip ds).map (·.1)=ks:=by rw [List.map_fst_zip (Nat.le_of_eq hl)]
 have zl:(ks.zip ds).length=ds.length:=by rw [List.length_zip,hl,Nat.min_self]
 have O:Ord (CP S ks) ds.length:=by rw [<- hl];exact GZ S hn
 have row:p.toList.map (fun i=>(ks.getD i S.dft,ds.getD i .none))=uI (ks.zip ds):=by
  refine List.Perm.eq_of_pairwise (le:=fun a b=>S.lt a.1 b.1=true) (fun a b _ _ h1 h2=>?_) ?_ (nV _ (by rw [e1];exact hn)) ?_
  ·have:=S.tr h1 h2;rw [S.irr _] at this;cases this
  ·rw [KP,Jy];intro i j hi hj hij;have:=hu.all O hij (by rw [<- hp.size];simpa using hj);unfold at_ at this;rw [KD,KD,Jp (by simpa using hi),Jp (by simpa using hj)] at this;exact this
  ·refine (((KJ.mp hp).map _).trans ?_).trans (fT _).symm;refine List.Perm.of_eq ?_;apply List.ext_getElem?;intro i;rw [List.toList_toArray,IJ];rcases Nat.lt_or_ge i ds.length with z | z
   ·have zk:i < ks.length:=by rw [hl];exact z
    rw [List.getElem?_range z,show (ks.zip ds)[i]?=some (ks[i],ds[i]) from List.getElem?_zip_eq_some.mpr ⟨Ia zk,Ia z⟩];simp [Jc,Ia (show i < ks.length by rw [hl];exact z),Ia z]
   ·rw [List.getElem?_eq_none (by rw [Js];exact z),List.getElem?_eq_none (by rw [zl];exact z)];rfl
 rw [<- row,Kh];rfl
theorem m5 {S:KS} {f:Fn}:∀ {ds:List PyData} {ks:List S.κ},kP S f ds=some ks->ks.length=ds.length
 | [],ks,h=>by cases h;rfl
 | d :: ds,ks,h=>by
  unfold kP at h;split at h
  ·rename_i k ks' _ h2;cases h;rw [IH,m5 h2,IH]
  ·cases h
theorem mJ {S:KS} {f:Fn}:∀ {ds:List PyData} {ks:List S.κ} {i:Nat} {d:PyData} {k:S.κ},kP S f ds=some ks->ds[i]?=some d->ks[i]?=some k->Ac S f d=some k
 | [],ks,i,d,k,h,h1,h2=>by simp at h1
 | e :: ds,ks,i,d,k,h,h1,h2=>by
  unfold kP at h;split at h
  ·rename_i k' ks' h3 h4;cases h;cases i with
   | zero=>simp at h1 h2;subst h1 h2;exact h3
   | succ i=>exact mJ h4 (by simpa using h1) (by simpa using h2)
  ·cases h
def pa (S:KS) (f:Fn):List PyData->Option PR
 | [.dict kvs]=>match kP S f (kvs.map (·.1)) with
  | some ks=>if kvs.length < 4096/\@decide ks.Nodup (@List.nodupDecidable _ S.dec ks)=true then some (.frs (.list ((uI (ks.zip (kvs.map (·.1)))).map (·.2)))) else none
  | none=>none
 | _=>none
def mX (S:KS) (f:Fn) (hm:f.ms=[.dat]):Prm where
 r:=fun K=>rn S K (fi f K)
 f:=pa S f
 ok:=by
  intro K F H ds vs pr Q hf hv hF q;unfold pa at hf;split at hf
  ·rename_i kvs;split at hf
   ·rename_i ks hks;split at hf
    ·rename_i c;replace c:kvs.length < 4096/\ks.Nodup:=⟨c.1,@of_decide_eq_true _ (_) c.2⟩;cases hf;obtain ⟨v,r,rfl,⟨a,rfl,ep,xs,ea,z,dp⟩,rfl⟩:=hv;have xl:=dp.fk;have kl:ks.length=(kvs.map (·.1)).length:=m5 hks;have xk:xs.length=(kvs.map (·.1)).length:=by rw [xl,Ig]
     refine ⟨a,ep,xs,ks,rfl,ea,by rw [xl];exact c.1,by rw [kl,xk],c.2,fun i x k H' hx hk sm=>?_,fun H' D p sm hD hp hu=>?_⟩
     ·obtain ⟨d1,d2⟩:=dp.get hx;have kf:=mJ hks d1 hk;unfold Ac at kf;split at kf
      ·rename_i kd hFd;have d3:Dm K F H' x.1 x.2.1:=d2.pr (fun b o e _=>sm b o e) fun _ z=>z;refine ⟨F,[x.1],[],.dat kd,[],hFd,by rw [hm];exact ⟨d3,rfl⟩,fun b hb=>?_,fun v' H'' hs hr=>⟨fun b o e=>hs b o e (by simp),?_⟩⟩
       ·intro z;cases e:H b with
        | none=>exact hF b hb e
        | some o=>rw [sm b o e] at z;cases z
       ·exact S.ofT kf hr.1
      ·cases kf
     ·have hDn:H D=none:=sm.free hD;refine q _ _ (fun b o e=>?_) ⟨D,rfl,hDn,_,aF,?_,?_⟩
      ·have:b≠D:=fun z=>by rw [z,hDn] at e;cases e
       rw [aA this];exact sm b o e
      ·rw [Ig,JN,hp.size];exact z
      ·rw [xk] at hp hu;rw [vA kl c.2 hp hu];have hb:∀ i∈p.toList,i < xs.length:=fun i hi=>by
        have:=(KJ.mp hp).mem_iff.mp hi;rw [xk];simpa using this
       have hU:∀ b,b≠D->upd H' D (.lst (p.toList.map (valAt xs))) b=H' b:=fun b hb=>aA hb;generalize upd H' D (.lst (p.toList.map (valAt xs)))=H9 at hU;revert hb;generalize p.toList=l;intro hb;induction l with
       | nil=>exact rfl
       | cons i l ih =>
        have hi:=hb i Ik;obtain ⟨d1,d2⟩:=dp.get (Ia hi);refine ⟨_,_,rfl,?_,ih fun j hj=>hb j (Io _ hj)⟩;show Dm K _ _ ((kvs.map (·.1)).getD i .none) (valAt xs i);unfold valAt;rw [Jc,d1,Ia hi];have d3:Dm K F H' xs[i].1 xs[i].2.1:=d2.pr (fun b o e _=>sm b o e) fun _ z=>z;refine (d3.fresh hD).pr (fun b o e _=>?_) fun _ z=>z;have:b≠D:=fun z=>by rw [z,hD] at e;cases e
        rw [hU b this];exact e
    ·cases hf
   ·cases hf
  ·cases hf
section
variable {X:Cx} {k:Nat} {g:Addr} {fd:FuncData} {ps:List Str} {fn:Fn} {f:Str} {p pf pos kpos:Pos} {e:Expr} {te:TE}
theorem CA (S:KS) (hm:fn.ms=[.dat]) (F:dN X.prog X.w X.K X.mg X.base CX0 k g fd ps (fi fn X.K)) (hr:cj (k+2) X.A) (hb:Binds X.K fd ps []) (hgs:Gl X "sorted") (hms:X.mg "sorted" = none) (hv:bootBuiltins "sorted" = some (.builtin "sorted")) (hgf:Gl X f) (hmf:X.mg f=some (.ref g)) (hdf:(f==("__debug__" : Str))=false)
  (ha:JA X [e] (ae te aq)) (h1:PySem.W.isStarred e=false):JE X (.Call (.Name "sorted" p) [e] [⟨some "key", .Name f pf,kpos⟩] pos) (tCB ((mX S fn hm).r X.K) (ae te aq)):=⟨wF F hr hb hgs hms hv hgf hmf hdf ha.h h1⟩
end
end Sg
abbrev Fy:=Str×Str×Ky
def ltF (x y:Fy):Bool:=if x.1=y.1 then (if x.2.1=y.2.1 then ltK x.2.2 y.2.2 else decide (x.2.1.cps.toList < y.2.1.cps.toList)) else decide (x.1.cps.toList < y.1.cps.toList)
theorem sM (x:Fy):ltF x x=false:=by
 unfold ltF;rw [Ip rfl,Ip rfl];exact uq _
theorem yj {x y:Str} (h:x.cps.toList=y.cps.toList):x=y:=by
 cases x;cases y;simpa using Array.toList_inj.mp h
theorem rl (x:Str):¬x.cps.toList < x.cps.toList:=List.lt_irrefl _
theorem wW {x y z:Fy} (h1:ltF x y=true) (h2:ltF y z=true):ltF x z=true:=by
 obtain ⟨x1,x2,x3⟩:=x;obtain ⟨y1,y2,y3⟩:=y;obtain ⟨z1,z2,z3⟩:=z;unfold ltF at *;dsimp only at *;split at h1 <;> split at h2
 ·rename_i a b;rw [Ip (a.trans b)];split at h1 <;> split at h2
  ·rename_i c d;rw [Ip (c.trans d)];exact BX h1 h2
  ·rename_i c d;rw [Im (by rw [c];exact d),c];exact h2
  ·rename_i c d;rw [Im (by rw [<- d];exact c),<-d];exact h1
  ·have:=List.lt_trans (Jm h1) (Jm h2);rw [Im (fun e=>by rw [e] at this;exact rl _ this)];exact IP this
 ·rename_i a b;rw [Im (by rw [a];exact b),a];exact h2
 ·rename_i a b;rw [Im (by rw [<- b];exact a),<-b];exact h1
 ·have:=List.lt_trans (Jm h1) (Jm h2);rw [Im (fun e=>by rw [e] at this;exact rl _ this)];exact IP this
theorem tW {x y:Str} (hn:¬x=y) (h:¬x.cps.toList < y.cps.toList):y.cps.toList < x.cps.toList :=
 Ki fun n=>hn (yj (List.le_antisymm (List.not_lt.mp n) (List.not_lt.mp h)))
theorem rW {x y:Fy} (hn:x≠y) (h:ltF x y=false):ltF y x=true:=by
 obtain ⟨x1,x2,x3⟩:=x;obtain ⟨y1,y2,y3⟩:=y;unfold ltF at *;dsimp only at *;split at h
 ·rename_i a;rw [Ip a.symm];split at h
  ·rename_i b;rw [Ip b.symm];exact yU (fun z=>hn (by rw [a,b,z])) h
  ·rename_i b;rw [Im (fun z=>b z.symm)];exact IP (tW b (J7 h))
 ·rename_i a;rw [Im (fun z=>a z.symm)];exact IP (tW a (J7 h))
abbrev FyV (k:Fy):List V:=[.int k.2.2.1,.int k.2.2.2.1,.str k.2.2.2.2]
def FyT (K:Fg) (H:Hp) (u:V) (k:Fy):Prop:=∃ t t2,u=.ref t/\SqT K H t [.str k.1,.str k.2.1,.ref t2]/\SqT K H t2 (FyV k)/\PyData.strOk k.2.2.2.2=true
theorem pJ {K:Fg} {H H':Hp} {t:Addr} {xs:List V} (h:SqT K H t xs) (e:aY H H'):SqT K H' t xs:=by
 rcases h with (h | ⟨o,h⟩) | h
 ·exact .inl (.inl (e _ _ h))
 ·exact .inl (.inr ⟨o,e _ _ h⟩)
 ·exact .inr h
def FyH (h:Heap) (u:Value) (k:Fy):Prop:=∃ t t2 a1 a2 b1 b2 b3,u=.ref t/\IsTup h t #[.str k.1 a1,.str k.2.1 a2,.ref t2]/\IsTup h t2 #[.int k.2.2.1 b1,.int k.2.2.2.1 b2,.str k.2.2.2.2 b3]/\PyData.strOk k.2.2.2.2=true
theorem Be {X:Cx} {pins:List (Addr×Obj)} {σ:List (Option V)} {H:Hp} {s:Shared} {v:V} {u:Value} {k:Fy} (I:Inv X pins σ H s) (r:RelV v u) (h:FyT X.K H v k):FyH s.heap u k:=by
 obtain ⟨t,t2,rfl,h,h',so⟩:=h;obtain ⟨its,r2,h2,_⟩:=I.tuple h;obtain ⟨its',r3,h3,_⟩:=I.tuple h';cases r2 with
 | cons a r2 =>
  cases r2 with
  | cons b r2 =>
   cases r2 with
   | cons c r2 =>
    cases r2;obtain ⟨t1,rfl⟩:=a;obtain ⟨t4,rfl⟩:=b;have c:_=Value.ref t2:=c;subst c;cases r3 with
    | cons a r3 =>
     cases r3 with
     | cons b r3 =>
      cases r3 with
      | cons c r3 =>
       cases r3;obtain ⟨q1,rfl⟩:=a;obtain ⟨q2,rfl⟩:=b;obtain ⟨q3,rfl⟩:=c;exact ⟨t,t2,t1,t4,q1,q2,q3,r,h2,h3,so⟩
def kyD (k:Ky):PyData:=.tuple [.int k.1,.int k.2.1,.str k.2.2]
theorem uz (a b:Ky):PyData.eqv (kyD a) (kyD b)=true↔a=b:=by
 obtain ⟨a1,a2,a3⟩:=a;obtain ⟨b1,b2,b3⟩:=b;simp [kyD,PyData.eqv,PyData.eqvAll]
theorem oY {h:Heap} {t:Addr} {k:Ky} {b1 b2 b3:Tok} (hx:IsTup h t #[.int k.1 b1,.int k.2.1 b2,.str k.2.2 b3]):∃ as,Reads h (.ref t) (kyD k) as:=by
 obtain ⟨o,h1,h2,n,h4⟩:=hx;exact ⟨_,.tuple h1 h2 h4 (.cons (.int _ _) (.cons (.int _ _) (.cons (.str _ _) .nil)))⟩
theorem i3 {k:Ky} (h:PyData.strOk k.2.2=true):SeqAt.shaped (kyD k)=true:=by
 have d:(kyD k).depth<=64:=by simp [kyD,PyData.depth,PyData.depthAll]
 have l:(kyD k).canLay0=true:=by simp [kyD,PyData.canLay0,PyData.canLayAll0,h]
 simp [SeqAt.shaped,l,d]
theorem Dq {P:Program} {w:World} {A:Around} {E:Value->Shared->Prop} {s:Shared} {u v:Value} {a b:Fy} {C:Bool->Shared->Prop} (hu:A.units+64 < cLine) (hx:FyH s.heap u a) (hy:FyH s.heap v b) (h:C (ltF a b) s):wpAny (model P w) A (keyLt' (tuples' true) u v) C E s:=by
 obtain ⟨x,x',t1,t2,t3,t4,t5,rfl,hx,hx',ox⟩:=hx;obtain ⟨y,y',u1,u2,u3,u4,u5,rfl,hy,hy',oy⟩:=hy;obtain ⟨ox,gx,cx,n,dx⟩:=hx;obtain ⟨oy,gy,cy,k,dy⟩:=hy;unfold ltF at h;refine kat_lt gx dx gy dy ?_;show KatLex P w A true _ C [(.str a.1 t1,.str b.1 u1),(.str a.2.1 t2,.str b.2.1 u2),(.ref x',.ref y')] 0 s;refine kat_cons (eqBool_str (kat_go (fun e=>kat_yes ?_) fun e=>kat_no (oneLt_str ?_)))
 ·rw [Ip (IZ.mp e)] at h;refine kat_cons (eqBool_str (kat_go (fun e=>kat_yes ?_) fun e=>kat_no (kat_one _ _ (lt_str ?_))))
  ·rw [Ip (IZ.mp e)] at h;obtain ⟨as,ra⟩:=oY (k:=a.2.2) hx';obtain ⟨bs,rb⟩:=oY (k:=b.2.2) hy';refine kat_cons (SeqAt.eqAt_reads _ _ A s _ _ as bs ra rb (SeqAt.canLay_of_shaped (i3 ‹_›)) (SeqAt.canLay_of_shaped (i3 ‹_›)) (SeqAt.room_of_shaped (i3 ‹_›) hu) P w _ _ (kat_go (fun e=>kat_yes ?_) fun e=>kat_no (kat_one _ _ ?_)))
   ·have e:=(uz _ _).mp e;rw [e,uq] at h;exact kat_nil h
   ·have ne:a.2.2≠b.2.2:=fun z=>by rw [(uz _ _).mpr z] at e;cases e
    refine xX hx' hy' (.ii _ _ _ _ (.ii _ _ _ _ (.ss _ _ _ _ .nil))) (by omega) ?_;have el:(if a.2.2.1=b.2.2.1 then if a.2.2.2.1=b.2.2.2.1 then if a.2.2.2.2=b.2.2.2.2 then false else decide (a.2.2.2.2.cps.toList < b.2.2.2.2.cps.toList) else decide (a.2.2.2.1 < b.2.2.2.1) else decide (a.2.2.1 < b.2.2.1))=ltK a.2.2 b.2.2:=by
     unfold ltK;split
     ·split
      ·split
       ·rename_i z;rw [z,IU (List.lt_irrefl _)]
       ·rfl
      ·rfl
     ·rfl
    rw [el];exact h
  ·rw [Im (fun z=>by rw [z,Jr] at e;cases e)] at h;exact h
 ·rw [Im (fun z=>by rw [z,Jr] at e;cases e)] at h;exact h
theorem Ck {h:Heap}:∀ {us:List Value},(∀ u∈us,∃ k,FyH h u k)->∃ fs,KatTups h us fs/\fs.length=us.length/\∀ v∈fs,∃ i t,v=.str i t
 | [],_=>⟨[],trivial,rfl,fun _ z=>nomatch z⟩
 | u :: us,hu=>by
  obtain ⟨k,t,t2,t1,a2,a3,a4,a5,rfl,⟨o,g,c,n,d⟩,_⟩:=hu u Ik;obtain ⟨fs,h1,h2,h3⟩:=Ck fun v hv=>hu v (Io _ hv);refine ⟨.str k.1 t1 :: fs,KatTups.cons g c d rfl h1,by rw [IH,h2,IH],fun v hv=>?_⟩;rcases Iz.mp hv with rfl | hv
  ·exact ⟨_,_,rfl⟩
  ·exact h3 v hv
def Gw:PyData->Option Fy | .tuple [.str a,.str b,.tuple [.int i,.int j,.str x]]=>some (a,b,i,j,x) | _=>none
def fyS:KS where
 κ:=Fy
 dft:=("", "", 0,0, "")
 dec:=inferInstance
 lt:=ltF
 irr:=sM
 tr:=wW
 tot:=rW
 T:=FyT
 same:=fun ⟨t,t2,e,h1,h2,h3⟩ sm=>⟨t,t2,e,pJ h1 sm,pJ h2 sm,h3⟩
 Hh:=FyH
 key:=Be
 ask:=Dq
 kd:=fun {P w A E s us Q} hu h0 hq=>by
  obtain ⟨fs,t1,t2,t3⟩:=Ck hu;refine kat_kind (T:=.type "str") t1 (by rw [t2];exact h0) (fun v hv=>?_) rfl hq;obtain ⟨i,t,rfl⟩:=t3 v hv;exact Looks.of_pure rfl
 of:=Gw
 ofT:=fun {K F H d u k} e h=>by
  unfold Gw at e;split at e
  ·cases e;obtain ⟨t,ys,rfl,sq,_,u1,r1,rfl,e1,u2,r2,rfl,e2,u3,r3,rfl,e3,rfl⟩:=h;obtain ⟨t2,zs,rfl,sq2,_,w1,q1,rfl,f1,w2,q2,rfl,f2,w3,q3,rfl,f3,rfl⟩:=e3;have e1:u1=_:=e1.1;have e2:u2=_:=e2.1;have f1:w1=_:=f1;have f2:w2=_:=f2;have f4:w3=_:=f3.1;subst e1 e2 f1 f2 f4;exact ⟨t,t2,rfl,sq,sq2,f3.2.2⟩
  ·cases e
end L2
end
section
namespace L2
open PySem PySem.Spec PyProof.Rows
theorem sG {S:KS} {f:Fn} {hm:f.ms=[.dat]} {e:En} {x:AV} {kvs:List (PyData×PyData)} {ks:List S.κ} {Q:RV->En->Prop} (h1:cn e [x]=some [.dict kvs]) (h2:Sg.kP S f (kvs.map (·.1))=some ks) (h3:kvs.length < 4096) (h4:ks.Nodup) (q:∀ r,r=(Sg.uI (ks.zip (kvs.map (·.1)))).map (·.2)->Q (.frs (.list r)) e):WPr (Sg.mX S f hm) [x] e Q:=by
 have e:(Sg.mX S f hm).f [.dict kvs]=some (PR.frs (.list ((Sg.uI (ks.zip (kvs.map (·.1)))).map (·.2)))):=by
  show Sg.pa S f [.dict kvs]=_;simp only [Sg.pa,h2];rw [Ip ⟨h3,@decide_eq_true _ (_) h4⟩]
 exact ⟨_,_,h1,e,q _ rfl⟩
theorem pq {α β γ:Type} (f:α->β) (g:α->γ):∀ U:List α,(U.map f).zip (U.map g)=U.map fun a=>(f a,g a)
 | []=>rfl
 | a :: U=>by rw [Jj,Jj,List.zip_cons_cons,pq f g U];rfl
theorem BA {S:KS} {α:Type} (key:α->S.κ) (enc:α->PyData) {U L:List α} (hU:(U.map key).Nodup) (hL:L.Pairwise fun a b=>S.lt (key a) (key b)=true) (hp:L.Perm U):(Sg.uI ((U.map key).zip (U.map enc))).map (·.2)=L.map enc:=by
 have ez:=pq key enc U;have row:L.map (fun a=>(key a,enc a))=Sg.uI ((U.map key).zip (U.map enc)):=by
  refine List.Perm.eq_of_pairwise (le:=fun a b=>S.lt a.1 b.1=true) (fun a b _ _ h1 h2=>?_) ?_ (Sg.nV _ ?_) ?_
  ·have:=S.tr h1 h2;rw [S.irr] at this;cases this
  ·rw [KP];exact hL
  ·rw [List.map_fst_zip (by simp)];exact hU
  ·refine List.Perm.trans ?_ (Sg.fT _).symm;rw [ez];exact hp.map _
 rw [<- row,Kh];rfl
end L2
end
section
namespace L2
open PySem PySem.Spec PyProof.Rows PySem.W
theorem GY {X:Cx} {tg e:Expr} {te:TE} (h:JE X e te):JI X tg e (Dy X.K te):=⟨fun pins s σ H R I q=>q.elim (uZ h.h pins s σ H R I) (z0 h.h pins s σ H R I)⟩
def Cz (K:Fg):V->Hp->VK->Prop:=fun x H Q=>∃ F d,Vw K F H d x/\∀ H',aY H H'->Q (.bl (isL d||isT d)) H'
def yc:Prm:=Prm.one Cz (fun d=>some (.dat (.bool (isL d||isT d)))) fun K F H x u pr Q hf hx hd q=>by
 cases hf;exact ⟨F,x,hx,fun H' sm=>q _ H' sm rfl⟩
def EX (K:Fg):List V->Hp->VK->Prop:=fun vs H Q=>∃ x tp F d,vs=[x,.ref tp]/\H tp=some (.tup [.ty "list", .ty "tuple"])/\Vw K F H d x/\Q (.bl (isL d||isT d)) H
theorem wu {K:Fg} (d:PyData):PySem.W.kitAny K (.type (tyN d)) [.type "list", .type "tuple"]=some (isL d||isT d):=by
 unfold PySem.W.kitAny PySem.W.kitAny PySem.W.kitAny;rw [AL d,BM d];cases isL d <;> cases isT d <;> rfl
theorem zI {X:Cx}:bM X (.builtin "isinstance") (EX X.K):=by
 rintro pins s σ H xs us Q I r ⟨x,tp,F,d,rfl,ht,hv,q⟩;obtain ⟨u,w',rfl,r1,r2⟩:=vals2 r;cases (show w'=Value.ref tp from r2);obtain ⟨_,its,rv,⟨o,g1,g2,n,g3⟩⟩:=(show bN X.prog X.w H s.heap tp (.tup [.ty "list", .ty "tuple"]) from I.hok tp _ ht);obtain ⟨u1,u2,rfl,ra,rb⟩:=vals2 rv;cases (show u1=Value.type "list" from ra);cases (show u2=Value.type "tuple" from rb);have htp:s.heap.get? tp=some ⟨.type "tuple", o.dict,.seq [Value.type "list", Value.type "tuple"].toArray n,o.slots⟩:=by
  rw [g1];obtain ⟨c,dd,da,sl⟩:=o;have g2:c=.type "tuple" := g2;have g3:da=_:=g3;subst g2 g3;rfl
 have e:=wu (K:=X.K) d;have fin:∀ tk,EP X pins σ Q (.bool (isL d||isT d)) { s with toks:=tk }:=fun tk=>⟨.bl _,H,I.tok _,rfl,q⟩;cases d with
 | none=>rw [DV hv] at r1;cases (show u=Value.none from r1);exact J9 PySem.W.kitx_none I.kIn True.intro htp e (fun z=>nomatch z) fin
 | bool y=>rw [vBl hv] at r1;cases (show u=Value.bool y from r1);exact J9 PySem.W.kitx_bool I.kIn True.intro htp e (fun z=>nomatch z) fin
 | int i=>rw [vInt hv] at r1;obtain ⟨t,q⟩:=(show ∃ t,u=Value.int i t from r1);cases q;exact J9 PySem.W.kitx_int I.kIn True.intro htp e (fun z=>nomatch z) fin
 | str y=>rw [(vStr hv).1] at r1;obtain ⟨t,q⟩:=(show ∃ t,u=Value.str y t from r1);cases q;exact J9 PySem.W.kitx_str I.kIn True.intro htp e (fun z=>nomatch z) fin
 | list ds =>
  obtain ⟨a,xs,rfl,l,z,rs⟩:=pP hv;cases (show u=Value.ref a from r1);obtain ⟨its,rv,⟨o,k,h1,h2,h3,h4⟩,_⟩:=I.list l;exact J9 PySem.W.kitx_list I.kIn ⟨o,h1,h2⟩ htp e (fun z=>nomatch z) fin
 | tuple ds =>
  obtain ⟨a,xs,rfl,l,z,rs⟩:=qW hv;cases (show u=Value.ref a from r1);obtain ⟨its,rv,⟨o,h1,h2,k,h4⟩,_⟩:=I.tuple l;exact J9 PySem.W.kitx_tuple I.kIn ⟨o,h1,h2⟩ htp e (fun z=>nomatch z) fin
 | dict ds =>
  obtain ⟨a,rfl,ep,xs,ea,_⟩:=hv;cases (show u=Value.ref a from r1);obtain ⟨_,_,_,o,es,h1,h2,_⟩:=(show bN X.prog X.w H s.heap a (.dD ep xs) from I.hok a _ ea);exact J9 PySem.W.kitx_dict I.kIn ⟨o,h1,h2.1⟩ htp e (fun z=>nomatch z) fin
theorem FJ {X:Cx} {e:Expr} {te:TE} {x1} {p p2 p3 pos pos2:Pos} (hg:Gl X "isinstance") (hm:X.mg "isinstance" = none) (ha:JE X e te) (hs:PySem.W.isStarred e=false)
  (hb:JE X (.Name (Str.ofString "list") p2) (tC (.ty "list"))) (hb2:JE X (.Name (Str.ofString "tuple") p3) (tC (.ty "tuple"))) :
  JE X (.Call (.Name "isinstance" p) [e,.Tuple [.Name (Str.ofString "list") p2,.Name (Str.ofString "tuple") p3] x1 pos2] [] pos) (tCB (yc.r X.K) (ae te aq)):=by
 let te':TE:=fun σ H P=>∃ P0:VK,te σ H P0/\∀ x H1,P0 x H1->P x H1
 have ha':JE X e te':=⟨fun pins s σ H P I ⟨P0,h0,h1⟩=>Jb (ha.h pins s σ H P0 I h0) (fun v s' ⟨x,H',I',r,q⟩=>⟨x,H',I',r,h1 _ _ q⟩) fun _ _ z=>z⟩;have htu:JE X (.Tuple [.Name (Str.ofString "list") p2,.Name (Str.ofString "tuple") p3] x1 pos2) (gz (ae (tC (.ty "list")) (ae (tC (.ty "tuple")) aq))):=iE (eA hb (eA hb2 aB rfl) rfl);have outer:=eB (p:=p) (pos:=pos) (zI (X:=X)) hg hm (by decide +kernel) (eA ha' (eA htu aB rfl) hs) hs rfl (by decide) rfl;refine ⟨?_⟩;intro pins s σ H Q I hT;refine outer.h pins s σ H Q I ⟨_,hT,fun x H1 z=>?_⟩;obtain ⟨F,d,hv,q⟩:=(show Cz X.K x H1 Q from z);refine ⟨by decide,fun tp htp=>⟨x,tp,F,d,rfl,aF,?_,q _ (aY.nw _ htp)⟩⟩;have sm:aY H1 (upd H1 tp (.tup [.ty "list", .ty "tuple"])):=aY.nw _ htp;have pr:=Pr.of_same (F:=F) sm;cases d with
 | list ds=>obtain ⟨a,rfl,z2⟩:=hv;exact ⟨a,rfl,rK.pr z2 pr (fun _ z=>z) (sm a)⟩
 | dict ds=>obtain ⟨a,rfl,z2⟩:=hv;exact ⟨a,rfl,rK.pr z2 pr (fun _ z=>z) (sm a)⟩
 | none=>exact Dm.pr pr (fun _ z=>z) hv
 | bool b=>exact Dm.pr pr (fun _ z=>z) hv
 | int b=>exact Dm.pr pr (fun _ z=>z) hv
 | str b=>exact Dm.pr pr (fun _ z=>z) hv
 | tuple b=>exact Dm.pr pr (fun _ z=>z) hv
end L2
end
section
namespace L2
open PySem PySem.Spec PyProof.Rows
section
variable {prog:Program} {w:World} {A:Around} {E:Value->Shared->Prop} {h:Heap} {g:Array GenState} {d:Drawn} {t:Nat} {os:OsState} {a:Addr} {o:Obj}
 {nm q:Str} {C N:Addr} {bs bm bmB:List Value} {hdct:Bool} {sn:List Str} {sub:List Value} {ab:Bool} {col:Option Bool} {dd:Option Addr} {k0 k1 k2 k3 k5:Option Value} {B newId:String} {K:Fg}
theorem v3 {R:Result->Shared->Prop} (hC:h.get? C=some (excClassObj nm q C N bs bm hdct sn sub ab col dd k0 k1 k2 k3 k5 newId)) (hb:bm.contains (.type "object")=true)
  (hx:h.get? a=some o) (hc:o.cls=.ref C) (hq:R (.ok (.ret (.ref C))) ⟨h,g,d,t,os⟩) :
  codeAny (model prog w) A (.call (.builtin "getset_descriptor.__get__") ⟨[.builtin "object.__class__", .ref a,.ref C],[]⟩) R ⟨h,g,d,t,os⟩:=by
 have hT5:(⟨h,g,d,t,os⟩:Shared).TypeIs (.builtin "object.__class__") "getset_descriptor" := F.typeOf_object_class;have hcB:(Value.ref C :: bm).contains (.type (".".intercalate ("object.__class__".cutAt '.').dropLast))=true:=by
  rw [F.owner_object_class,List.contains_cons,hb,Bool.or_true]
 refine codeAny_call_builtin F.slot_gs_get.plain F.entry_gs_get (F.slot_gs_get.check _ _ _ _ _ _ _ _ hT5 (F.args_gs_get _ _ _) ?_)
 repeat (any_goals (first | assumption | (with_reducible refine Kc hx ?_;rw [hc]) | (with_reducible refine wpAny_isSubtype_exc hC ?_;rw [hcB]) | wp_step))
 refine ⟨Code.quiet_builtin _ (by decide +kernel),codeAny_builtin F.entry_object_class ?_⟩
 repeat (any_goals (first | assumption | (with_reducible refine Kc hx ?_;rw [hc]) | wp_step))
theorem qd {tk:Tok} {Q:Fin->Shared->Prop} (X:K.In h) (hcl:PySem.W.findIn K (.ref C) "__class__" = some (some (.builtin "object.__class__")))
  (hC:h.get? C=some (excClassObj nm q C N bs bm hdct sn sub ab col dd k0 k1 k2 k3 k5 newId)) (hb:bm.contains (.type "object")=true)
  (hx:h.get? a=some o) (hc:o.cls=.ref C) (hq:Q (.done (.ret (.ref C))) ⟨h,g,d,t,os⟩) :
  wpAny (model prog w) A (Builtin.«object.__getattribute__» ⟨[.ref a,.str "__class__" tk],[]⟩) Q E ⟨h,g,d,t,os⟩:=by
 have hT5:(⟨h,g,d,t,os⟩:Shared).TypeIs (.builtin "object.__class__") "getset_descriptor" := F.typeOf_object_class;have f5:=F.typeOf_object_class;have f6:=F.slot_gs_get.lookup;have f7:=F.slot_gs_set.lookup;have L1:=PySem.W.looks_findIn (M:=model prog w) X hcl
 repeat (any_goals (first | assumption | (with_reducible refine Kc hx ?_;rw [hc]) | with_reducible refine L1.at ?_ | wp_step))
 refine v3 hC hb hx hc ?_
 repeat (any_goals (first | assumption | wp_step))
theorem qf {M:Model} {nameV:Value} {Q:Unit->Shared->Prop} (hC:h.get? C=some (excClassObj nm q C N bs bm hdct sn sub ab col dd k0 k1 k2 k3 k5 newId)) (hb:bm.contains (.type "BaseException")=true)
  (hx:h.get? a=some o) (hc:o.cls=.ref C) (hq:Q () ⟨h,g,d,t,os⟩):wpAny M A (checkBuiltinCall "BaseException.__getattribute__" ⟨[.ref a,nameV],[]⟩) Q E ⟨h,g,d,t,os⟩:=by
 have hk:builtinKind "BaseException.__getattribute__" = some .slot:=by decide +kernel
 have hsplit:splitId "BaseException.__getattribute__" = some ("BaseException", "__getattribute__"):=by decide +kernel
 have hcB:(Value.ref C :: bm).contains (.type "BaseException")=true:=by rw [List.contains_cons,hb,Bool.or_true]
 have ha:=F.args_bexc_ga (.ref a) nameV;simp only [checkBuiltinCall,hk,hsplit];refine Ib ?_
 ·unfold isInstance
  repeat (first | (with_reducible refine Kc hx ?_;rw [hc]) | (with_reducible refine wpAny_isSubtype_exc hC ?_;rw [hcB]) | wp_step)
  exact hq
theorem yN {tk:Tok} {fill expr:Bool} {Q:Value->Shared->Prop} (X:K.In h) (hcl:PySem.W.findIn K (.ref C) "__class__" = some (some (.builtin "object.__class__")))
  (hga:PySem.W.findIn K (.ref C) "__getattribute__" = some (some (.builtin "BaseException.__getattribute__"))) (hgg:PySem.W.findIn K (.ref C) "__getattr__" = some none)
  (hC:h.get? C=some (excClassObj nm q C N bs bm hdct sn sub ab col dd k0 k1 k2 k3 k5 newId)) (hb:bm.contains (.type "object")=true) (hb2:bm.contains (.type "BaseException")=true)
  (hx:h.get? a=some o) (hc:o.cls=.ref C) (hq:Q (.ref C) ⟨h,g,d,t,os⟩) :
  wpAny (model prog w) A (getAttrBy (.ref a) (.str "__class__" tk) fill expr) Q E ⟨h,g,d,t,os⟩:=by
 have f3:=F.excAttr_ValueError.ga.bind (.ref a);have hx0:(expr&&onTheHeap (Value.builtin "BaseException.__getattribute__"))=false:=by cases expr <;> rfl
 have hx2:(Value.builtin "BaseException.__getattribute__" == Value.builtin "object.__getattribute__")=false:=by decide +kernel
 have hx1:(onTheHeap (Value.ref C)&&Value.builtin "BaseException.__getattribute__" == Value.builtin "object.__getattribute__")=false:=by rw [hx2];rfl
 have L1:=PySem.W.looks_findIn (M:=model prog w) X hga;have L2:=PySem.W.looks_findIn (M:=model prog w) X hgg
 repeat (any_goals (first | assumption | (with_reducible refine Kc hx ?_;rw [hc]) | with_reducible refine L1.at ?_ | with_reducible refine L2.at ?_ | wp_step))
 refine codeAny_call_builtin F.excAttr_ValueError.ga.plain F.entry_bexc_ga (qf hC hb2 hx hc (qd X hcl hC hb hx hc ?_))
 repeat (any_goals (first | assumption | wp_step))
theorem tT {Q:Option Value->Shared->Prop} (X:K.In h) (hcl:PySem.W.findIn K (.ref C) "__class__" = some (some (.builtin "object.__class__")))
  (hga:PySem.W.findIn K (.ref C) "__getattribute__" = some (some (.builtin "BaseException.__getattribute__"))) (hgg:PySem.W.findIn K (.ref C) "__getattr__" = some none)
  (hC:h.get? C=some (excClassObj nm q C N bs bm hdct sn sub ab col dd k0 k1 k2 k3 k5 newId)) (hb:bm.contains (.type "object")=true) (hb2:bm.contains (.type "BaseException")=true)
  (hx:h.get? a=some o) (hc:o.cls=.ref C) (hq:Q (some (.ref C)) ⟨h,g,d,t+1,os⟩) :
  wpAny (model prog w) A (getAttr? (.ref a) "__class__") Q E ⟨h,g,d,t,os⟩:=by
 unfold getAttr? getAttrBy?
 repeat (any_goals (first | assumption | with_reducible apply yN X hcl hga hgg hC hb hb2 hx hc | wp_step))
theorem Br {M:Model} {e D:Addr} {oe:Obj} {b:Bool} {Q:Bool->Shared->Prop}
  {nm' q':Str} {N':Addr} {bs' bm':List Value} {hdct':Bool} {sn':List Str} {sub':List Value} {ab':Bool} {col':Option Bool} {dd':Option Addr} {k0' k1' k2' k3' k5':Option Value} {newId':String}
  (hC:h.get? C=some (excClassObj nm q C N bs bm hdct sn sub ab col dd k0 k1 k2 k3 k5 newId)) (hD:h.get? D=some (excClassObj nm' q' D N' bs' bm' hdct' sn' sub' ab' col' dd' k0' k1' k2' k3' k5' newId'))
  (he:h.get? e=some oe) (hcls:oe.cls=.ref C) (hbase:bm'.contains (.type "BaseException")=true) (hm:(Value.ref C :: bm).contains (.ref D)=b)
  (hq:Q b ⟨h,g,d,t,os⟩):wpAny M A (excMatches (.ref e) (.ref D)) Q E ⟨h,g,d,t,os⟩:=by
 have hcB:(Value.ref D :: bm').contains (.type "BaseException")=true:=by rw [List.contains_cons,hbase,Bool.or_true]
 have f:=tc_notTuple;unfold excMatches
 repeat (first | (with_reducible refine Kc he ?_;rw [hcls]) | with_reducible refine Kc hD ?_ | (with_reducible refine wpAny_isSubtype_exc hD ?_;rw [hcB]) | (with_reducible refine wpAny_isSubtype_exc hC ?_;rw [hm]) | wp_step)
 cases b <;> first | exact hq | (wp_walk;exact hq)
end
structure mP (K:Fg) (C:Addr):Prop where
 ex:PySem.W.excIn K C [.type "ValueError", .type "Exception", .type "BaseException", .type "object"] "ValueError.__new__" = true
 cl:PySem.W.findIn K (.ref C) "__class__" = some (some (.builtin "object.__class__"))
 ga:PySem.W.findIn K (.ref C) "__getattribute__" = some (some (.builtin "BaseException.__getattribute__"))
 gg:PySem.W.findIn K (.ref C) "__getattr__" = some none
abbrev bmV:List Value:=[.type "ValueError", .type "Exception", .type "BaseException", .type "object"]
theorem mP.own {K:Fg} {C:Addr} {h:Heap} (x:mP K C) (X:K.In h):∃ bm N nm q bs hdct sn sub ab col dd k0 k1 k2 k3 k5 mN,h.get? C=some (excClassObj nm q C N bs bm hdct sn sub ab col dd k0 k1 k2 k3 k5 "ValueError.__new__")/\h.Ns N mN/\mN "__init__" = none/\OwnTail h bmV bm /\
  ∃ cd,PySem.W.clsIn K C=some cd/\cd.mro=.ref C :: bm:=by
 have q:=x.ex;unfold PySem.W.excIn at q;split at q
 ·rename_i dd cd sl ho;split at q
  ·rename_i C' bm k0 k1 k2 k3 n k5 hm hs;simp only [Ji,IZ,Kd] at q;obtain ⟨⟨⟨⟨⟨rfl,rfl⟩,hdel⟩,ht⟩,hok⟩,hni⟩:=q;have hci:PySem.W.clsIn K C'=some cd:=by unfold PySem.W.clsIn;rw [ho]
   obtain ⟨nm,bs,mro,ns,qn,hd,sn,sub,ab,col,del⟩:=cd;dsimp only at hm hdel hok hni;subst hm hdel;have hsl:sl=#[k0,k1,k2,k3,some (.builtin "ValueError.__new__"),k5]:=by
    obtain ⟨l⟩:=sl;simp only at hs;rw [hs]
   subst hsl;exact ⟨bm,ns,nm,qn,bs,hd,sn,sub,ab,col,dd,k0,k1,k2,k3,k5,_,X _ _ ho,.of_isNs (PySem.W.isNs_of_in X hok),PySem.W.nsMap_none_of_in X hok hni,PySem.W.tail_of_in X ht,_,hci,rfl⟩
  ·cases q
 ·cases q
theorem o6 {K:Fg} {C a:Addr} (x:mP K C):PySem.W.KitX K (.ref a) (.ref C) (fun h=>∃ o,h.get? a=some o/\o.cls=.ref C) where
 ty:=fun M h _ p=>by
  obtain ⟨o,h1,h2⟩:=p;exact h2▸(PySem.W.Looks.ld h1).andThen .now
 it:=fun M h X _=>by
  obtain ⟨bm,N,nm,q,bs,hdct,sn,sub,ab,col,dd,k0,k1,k2,k3,k5,mN,hC,_⟩:=x.own X;intro A' Q' E' s' k q;unfold isType loadHead;exact Ib (wpAny_loadPart (k _ _ hC) (Il q))
 ne:=fun h tp dd its n sl X htp=>by
  refine Bool.eq_false_iff.mpr fun q=>?_;have e:C=tp:=Value.ref.inj (IZ.mp q);subst e;obtain ⟨bm,N,nm,q,bs,hdct,sn,sub,ab,col,dd,k0,k1,k2,k3,k5,mN,hC,_⟩:=x.own X;have z:=congrArg Obj.data (Jk (hC.symm.trans htp));cases z
 ca:=fun {prog w A E Q s} X p k=>by
  obtain ⟨h,g,d,t,os⟩:=s;obtain ⟨o,h1,h2⟩:=p;obtain ⟨bm,N,nm,q,bs,hdct,sn,sub,ab,col,dd,k0,k1,k2,k3,k5,mN,hC,_,_,T,_⟩:=x.own X;exact tT X x.cl x.ga x.gg hC (T.hasType rfl) (T.hasType rfl) h1 h2 k
end L2
end
section
namespace L2
open PySem PySem.Spec PyProof.Rows
theorem bN.got {P:Program} {w:World} {H:Hp} {h:Heap} {a:Addr} {o:HO} (x:bN P w H h a o):∃ ob,h.get? a=some ob:=by
 cases o with
 | lst xs=>obtain ⟨_,_,_,_,e⟩:=x;exact ⟨_,e⟩
 | tup xs=>obtain ⟨_,_,_,ob,e,_⟩:=x;exact ⟨_,e⟩
 | dK kvs=>obtain ⟨_,_,_,_,o,_,_,e,_⟩:=x;exact ⟨_,e⟩
 | dT kvs=>obtain ⟨_,_,_,_,o,_,_,e,_⟩:=x;exact ⟨_,e⟩
 | dD ep xs=>obtain ⟨_,_,_,o,_,e,_⟩:=x;exact ⟨_,e⟩
 | set S n=>obtain ⟨o,_,_,_,e,_⟩:=x;exact ⟨_,e⟩
 | ins C dx fs=>obtain ⟨_,_,_,e,_⟩:=x;exact ⟨_,e⟩
 | own y=>exact x
 | xd fs=>obtain ⟨_,⟨_,_,_,e,_⟩,_⟩:=x;exact ⟨_,e⟩
 | rng lo hi=>obtain ⟨_,_,_,e⟩:=x;exact ⟨_,e⟩
 | frz ob u=>exact ⟨_,x.1⟩
 | tbl ps=>exact ⟨_,x⟩
 | met f y=>exact ⟨_,x⟩
 | ext φ=>exact x.2.1
theorem gr {h b0 b1:Heap}:∀ {l:List Env},h.FunFrames b0 l->(∀ L∈frs l,b1.get? L=none)->h.FunFrames b1 l
 | [],_,_=>trivial
 | env :: rest,⟨hk,⟨L,o,hf,hn,ho,hd⟩,hr⟩,k=>by
  refine ⟨hk,⟨L,o,hf,k L ?_,ho,hd⟩,gr hr fun L' h'=>k L' ?_⟩
  ·unfold frs;rw [J3,hf];exact Ik
  ·unfold frs at h' ⊢;rw [J3,hf];exact Io _ h'
def CX1 (P:Program) (w:World):CXT:=fun outer H s E e s2=>∃ (ea C t:Addr) (H':Hp) (b:Heap),e=.ref ea/\s2.os=s.os/\AllBare s2.gens/\Un (frs outer) [] H H' s.heap s2.heap /\
 (∀ c o,s.heap.get? c=some o->c ∉ frs outer->∃ o',b.get? c=some o')/\HOk P w H' b/\Heap.FlyingW b outer ea (.ref C) (.ref t) s2.heap/\E (.ref C) none H'
theorem xh {outer:List Env} {H H':Hp} {h h2 h3 b b0:Heap} (u:Un (frs outer) [] H H' h h2) (k:∀ c o,h.get? c=some o->c ∉ frs outer->∃ o',b.get? c=some o') (st:b.StaysIn h2) (st3:b.StaysIn h3) (sl:h2.UpToSlots h3)
  (ff:h2.FunFrames b0 outer) (fr:∀ c∈frs outer,H c=none):Un (frs outer) [] H H' h h3 where
 keep:=fun c o e n hc hx=>by
  obtain ⟨o',q⟩:=k c o e hc;have z:=u.keep c o e n hc hx;rw [st c o' q] at z;cases z;exact st3 c _ q
 slot:=fun c o e n hc hx=>by
  obtain ⟨s1,z⟩:=u.slot c o e n hc hx;obtain ⟨_,o2,e2,d2⟩:=ff.mem hc;rw [z] at e2;cases e2;obtain ⟨s2,z2⟩:=sl c _ z d2;exact ⟨s2,z2⟩
 free:=u.free
 there:=fun c o e hx=>by
  by_cases hc:c∈frs outer
  ·obtain ⟨s1,z⟩:=u.slot c o e (fr c hc) hc hx;obtain ⟨_,o2,e2,d2⟩:=ff.mem hc;rw [z] at e2;cases e2;obtain ⟨s2,z2⟩:=sl c _ z d2;exact ⟨_,z2⟩
  ·obtain ⟨o',q⟩:=k c o e hc;exact ⟨o',st3 c o' q⟩
 qv:=u.qv
 pI:=u.pI
 qU:=u.qU
section
variable {X:Cx} {pins:List (Addr×Obj)} {σ:St} {H:Hp} {s:Shared} {x:Str} {C:Addr} {e0:Expr} {rest:List Expr} {t:TA} {np cpos pos:Pos} {EW:Hp->Prop} {Q:Flow->Shared->Prop}
theorem wm (xc:mP X.K C) (hg:Gl X x) (hm:X.mg x=some (.ref C)) (hh:X.A.handled=none) (ha:PA X (e0 :: rest) t) (I:Inv X pins σ H s) (ht:t σ H fun vs H1=>vs.length<=sizeLine/\EW H1)
  (hE:∀ s1 H1 us h' e,Inv X pins σ H1 s1->EW H1->Heap.MadeExcOf s1.heap h' e (.ref C) us->X.xe (.ref e) { s1 with heap:=h' })
  (he:starEach (e0 :: rest) X.env=(false,eval e0 X.env) :: starEach rest X.env) (hp:(backTo cpos (starEach rest X.env)).any (·.1)=false) (hd:(x==("__debug__" : Str))=false:=by decide) :
  wpAny (model X.prog X.w) X.A (exec (.Raise (some (.Call (.Name x np) (e0 :: rest) [] cpos)) none pos) X.env) Q X.xe s:=by
 obtain ⟨tl,N,nm,q,bs,hdct,sn,sub,ab,col,dd,k0,k1,k2,k3,k5,mN,hC,hN,hni,T,_⟩:=xc.own I.ok.mod.kin;refine wpAny_Raise_call_subT (C:=C) (nm:=nm) (q:=q) (N:=N) (bs:=bs) (bm:=tl) (hdct:=hdct) (sn:=sn) (sub:=sub) (ab:=ab) (col:=col) (dd:=dd) (k0:=k0) (k1:=k1) (k2:=k2) (k3:=k3) (k5:=k5)
  PySem.F.excBase_ValueError (mN:=mN) (T.hasType PySem.F.excBase_ValueError.hasBase) hh (by rw [he];show (false||(backTo cpos (starEach rest X.env)).any (·.1))=false;rw [hp];rfl) hni (jj I hg hm ⟨rfl,?_⟩ hd)
 have h:=ha cpos pins s σ H _ I ht;rw [he] at h ⊢;refine Calls.evalArgs_plain (Jb h (fun us s1 z=>?_) fun _ _ y=>y);obtain ⟨vs,H1,I1,r,z,ew⟩:=z;have kp:∀ b o,X.base.get? b=some o->s1.heap.get? b=some o:=I1.bk;exact ⟨rfl,by rw [<- r.length];exact z,kp _ _ hC,hN.keeps kp,T.keeps kp,fun h' e hx=>hE s1 H1 us h' e I1 ew hx⟩
end
theorem zu {P:Program} {w:World} {K:Fg} {mg:Str->Option Value} {base:Heap} {N:List Str} {qual:Str} {scope:Scope} {f:Addr} {cd:Value} {A:Around} {outer:List Env} {s:Shared} {H:Hp} {E:XK}
  {pins:List (Addr×Obj)} {σ:St} {H1:Hp} {s1:Shared} {h':Heap} {e C:Addr} {us:List Value}
  (I:Inv (fh (CX1 P w) P w K mg base N qual scope f cd A outer s H E) pins σ H1 s1) (ew:E (.ref C) none H1) (hx:Heap.MadeExcOf s1.heap h' e (.ref C) us) :
  (fh (CX1 P w) P w K mg base N qual scope f cd A outer s H E).xe (.ref e) { s1 with heap:=h' }:=by
 have hst:(PySem.W.hideAll s1.heap (frs (envOfC qual scope s.heap.objs.size f cd :: outer))).StaysIn s1.heap:=fun b o q=>PySem.W.of_hideAll _ q;have ff:s1.heap.FunFrames (PySem.W.hideAll s1.heap (frs (envOfC qual scope s.heap.objs.size f cd :: outer))) (envOfC qual scope s.heap.objs.size f cd :: outer) :=
  gr I.stack fun L hL=>PySem.W.hideAll_none _ hL
 have nfr:∀ c,c∈frs (envOfC qual scope s.heap.objs.size f cd :: outer)->c=s.heap.objs.size\/c∈frs outer:=fun c hc=>by
  have q:=I.pV c hc;rcases Iz.mp q with z | z
  ·exact .inl z
  ·exact .inr z
 have U:Un (frs outer) [] H H1 s.heap s1.heap:=I.base;have frf:∀ c∈frs outer,H c=none:=I.ok.frf;have inB:∀ c o,s.heap.get? c=some o->c ∉ frs outer->∃ o',(PySem.W.hideAll s1.heap (frs (envOfC qual scope s.heap.objs.size f cd :: outer))).get? c=some o':=fun c o q hc=>by
  obtain ⟨o',q'⟩:=U.there c o q (by simp);refine ⟨o',PySem.W.hideAll_get _ q' fun z=>?_⟩;rcases nfr c z with z | z
  ·exact absurd (IF q) (by rw [z];exact Jo _)
  ·exact hc z
 refine wpAny_leaves_madeW (h:=s1.heap) I.ok.frames rfl hst ff hx fun h2 t fl tu tn sl=>?_;refine ⟨e,C,t,H1,_,rfl,I.os,I.bare,?_,inB,fun c o q=>?_,fl,ew⟩
 ·exact xh U inB hst fl.1 ((Heap.UpToSlots.of_keeps hx.keeps).trans sl) I.nt frf
 ·refine (I.hok c o q).lI (fun b u hb r=>PySem.W.hideAll_get _ r fun z=>?_) (fun _ r=>r) fun _ _ r=>r;have fr:=I.lG b z;rcases hb with rfl | hb
  ·rw [q] at fr;cases fr
  ·rw [hb] at fr;cases fr
def Q1 (E:XK) (C:Addr) (Q:VK):VK:=fun v H=>(v=.non->E (.ref C) none H)/\(v≠.non->Q v H)
abbrev D1 (E:XK) (C:Addr) (Q:VK):Ends:={ nx:=fun _ H'=>Q1 E C Q .non H',rt:=Q1 E C Q }
structure JR (X:Cx) (E:XK) (C:Addr) (Q:VK) (body:List Stmt) (t:TS):Prop where
 h:∀ (pins:List (Addr×Obj)) (s:Shared) (σ:St) (H:Hp),Inv X pins σ H s->t (D1 E C Q) σ H->wpAny (model X.prog X.w) X.A (execs body X.env) (SP X pins { nx:=fun _ H'=>Q .non H',rt:=Q }) X.xe s
def Lets (X:Cx) (E:XK) (C:Addr):Prop:=∀ (pins:List (Addr×Obj)) (σ:St) (H1:Hp) (s1:Shared) (h':Heap) (e:Addr) (us:List Value),Inv X pins σ H1 s1->E (.ref C) none H1->Heap.MadeExcOf s1.heap h' e (.ref C) us->X.xe (.ref e) { s1 with heap:=h' }
section
variable {X:Cx} {E:XK} {C:Addr} {Q:VK}
theorem Di {st:Stmt} {rest:List Stmt} {te:TE} {g:TG} {t:TS} (h1:JS X st (dB te g)) (h2:JR X E C Q rest t):JR X E C Q (st :: rest) (b8 (dB te g) t):=by
 refine ⟨fun pins s σ H I h=>?_⟩;refine JU (thn (h1.h pins s σ H { nx:=t (D1 E C Q),rt:=fun _ _=>False } I h) fun f s1 q=>?_);cases f with
 | next =>
  obtain ⟨σ',H',I',q⟩:=q;exact h2.h pins s1 σ' H' I' q
 | ret v=>obtain ⟨_,_,_,_,_,q⟩:=q;exact q.elim
 | brk=>obtain ⟨_,_,_,q⟩:=q;exact q.elim
 | cont=>obtain ⟨_,_,_,q⟩:=q;exact q.elim
theorem BS {c e0:Expr} {x:Str} {rest:List Stmt} {tc:TT} {t:TS} {v:V} {np cpos pos pos2:Pos} (hc:JT X c tc) (xc:mP X.K C) (hg:Gl X x) (hm:X.mg x=some (.ref C)) (hh:X.A.handled=none) (ha:JE X e0 (tC v)) (hs:PySem.W.isStarred e0=false)
  (hL:Lets X E C) (h2:JR X E C Q rest t) (hd:(x==("__debug__" : Str))=false):JR X E C Q (.If c [.Raise (some (.Call (.Name x np) [e0] [] cpos)) none pos] [] pos2 :: rest) (b8 (iO tc (cH (tC .non)) cA) t):=by
 refine ⟨fun pins s σ H I h=>?_⟩;refine JU (wpAny_If (thn (hc.h pins s σ H _ I h) fun d s1 ⟨H1,I1,q1⟩=>?_));cases d with
 | true =>
  have ew:E (.ref C) none H1:=(show Q1 E C Q .non H1 from q1).1 rfl;refine JU ?_;exact wm (EW:=fun H=>E (.ref C) none H) xc hg hm hh (sh ha.h xq (bj hs)) I1 ⟨(by decide:1<=sizeLine),ew⟩ (fun s2 H2 us h' e I2 ew2 hx=>hL pins σ H2 s2 h' e us I2 ew2 hx) (bj hs) rfl hd
 | false=>exact Ko (h2.h pins s1 σ H1 I1 q1)
theorem Bx {e:Expr} {te:TE} {pos:Pos} {r:List V->Hp->VK->Prop} (he:JE X e te) (hr:∀ vs H (Q:VK),r vs H Q->∃ v,vs=[v]/\v≠.non/\Q v H):JR X E C Q [.Return (some e) pos] (cH (tCB r (ae te aq))):=by
 refine ⟨fun pins s σ H I h=>?_⟩;refine JU (wpAny_Return_some (thn (he.h pins s σ H _ I h) fun v s1 ⟨x,H1,I1,r1,q1⟩=>?_));obtain ⟨y,e1,ne,q⟩:=hr _ _ _ q1;cases e1;exact ⟨x,σ,H1,I1,r1,q.2 ne⟩
end
section
variable {P:Program} {w:World} {K:Fg} {mg:Str->Option Value} {base:Heap}
theorem Fun.okR {x qual:Str} {st:Stmt} {f C:Addr} {fd:FuncData} {N ps:List Str} {k:Nat} {sp:Sp} (F:Fun K x qual st f fd) (S:aI N ps (aa st)) (len:∀ vs H Q E,sp vs H Q E->vs.length=ps.length)
  (hbody:∀ (cdv:Value) (A:Around) (outer:List Env) (s:Shared) (H:Hp) (vs:List V) (Q:VK) (E:XK),cj k (A.deeper (envOfC qual (aa st) s.heap.objs.size f cdv))->sp vs H Q E ->
   ∃ t,JR (fh (CX1 P w) P w K mg base N qual (aa st) f cdv A outer s H E) E C Q (ag st) t/\t (D1 E C Q) (start N vs) H):dN P w K mg base (CX1 P w) (k+1) f fd ps sp:=by
 obtain ⟨oc,od,kV,doc,pm,an,cdv,ct,osl,rfl,lk,hcd⟩:=F.ex;refine AZ lk hcd S len fun A outer s H vs Q E hr hsp=>?_;obtain ⟨t,h,q⟩:=hbody cdv A outer s H vs Q E hr hsp;refine ⟨fun D σ H=>D={ nx:=fun _ H'=>Q .non H',rt:=Q }/\t (D1 E C Q) σ H,fun pins s1 σ H1 D I z=>?_,rfl,q⟩;obtain ⟨rfl,z⟩:=z;exact h.h pins s1 σ H1 I z
theorem tV {N:List Str} {qual:Str} {scope:Scope} {f C:Addr} {cd:Value} {A:Around} {outer:List Env} {s:Shared} {H:Hp} {E:XK}:Lets (fh (CX1 P w) P w K mg base N qual scope f cd A outer s H E) E C :=
 fun pins σ H1 s1 h' e us I ew hx=>zu I ew hx
end
end L2
end
section
namespace L2
open PySem PySem.Spec PyProof.Rows
abbrev Xs (X:Cx) (ea:Addr) (oe:Obj) (n:Str):Cx:={ X with A:=X.A.mark (some (.ref ea)),calm:=false,pn:=(ea,oe) :: X.pn,N:=X.N++[n],xe:=fun _ _=>False }
section
variable {X:Cx} {pins:List (Addr×Obj)} {σ:St} {H H':Hp} {s s2:Shared} {ea:Addr} {oe:Obj} {n:Str}
theorem Cx.Ok.qN (ok:X.Ok):(Xs X ea oe n).Ok :=
 ⟨ok.mod,ok.kind,ok.glob,ok.blt,ok.above,ok.inj,ok.has,ok.cab,fun z=>(by cases z),ok.frames,ok.stk,ok.exf,ok.bs,ok.bsz,ok.wB,ok.xa,ok.nt,ok.frf⟩
theorem Inv.qN (I:Inv X pins σ H s) (h1:s.heap.get? ea=some oe) (h2:H ea=none) (h3:ea≠X.env.locals) (h4:ea ∉ X.fs) (h5:∀ v,oe.data≠.cell v):Inv (Xs X ea oe n) pins (σ++[none]) H s:=by
 refine ⟨I.ok.qN,I.os,I.bare,I.base,?_,I.cell,I.free,I.fg,fun p hp=>?_,I.hok,?_⟩
 ·obtain ⟨m,hn,hl⟩:=I.loc;refine ⟨m,hn,fun i x v e1 e2 e3=>?_⟩;by_cases hi:i < σ.length
  ·rw [Iu hi] at e2;have e1:(X.N++[n])[i]?=some x:=e1;rw [Iu (by rw [<- I.len];exact hi)] at e1;exact hl i x v e1 e2 e3
  ·rw [Ii (by omega)] at e2;cases q:i - σ.length with
   | zero=>rw [q] at e2;cases e2
   | succ k=>rw [q] at e2;cases e2
 ·have hp:p∈(ea,oe) :: (X.pn++pins):=hp;rcases Iz.mp hp with z | z
  ·subst z;exact ⟨h1,h2,h3,h4,h5⟩
  ·exact I.pin p z
 ·show (σ++[none]).length=(X.N++[n]).length;rw [Ic,Ic,I.len];rfl
theorem qz {M:Model} {A:Around} {E:Value->Shared->Prop} {τ:St} {pos:Pos} {Q:Unit->Shared->Prop} (I:Inv (Xs X ea oe n) pins τ H s) (hl:X.env.kindOf n=some .local) (hn:n ∉ X.N)
  (h:∀ s',Inv X pins (τ.take X.N.length) H s'->Q () s') (ok:X.Ok):wpAny M A (do bindName X.env n .none;unbindBehindTheSuite X.env n pos) Q E s:=by
 obtain ⟨m,hns,hlo⟩:=id I.loc;have hcls:(X.env.scope.kind==.class||(X.env.scope.kind==.module&&X.env.locals != X.env.globals))=false:=by rw [ok.kind];rfl
 refine wpAny_nameGoes_keeps hl hns hcls fun h' v hn' hs=>h _ ?_;have ab:=ok.above;have neL:∀ b o,X.s₀.heap.get? b=some o->b≠X.env.locals:=fun b o e=>Jf (II (IF e) ab);have cne:∀ y c,X.env.cells.lookup y=some c->c≠X.env.locals:=I.cne;obtain ⟨oL,_,_,hoL,_⟩:=id hns;refine ⟨ok,I.os,I.bare,⟨fun b o e n hb hx=>?_,fun b o e n hb hx=>?_,I.base.free,fun b o e hx=>?_,I.base.qv,I.base.pI,I.base.qU⟩,⟨_,hn',fun j y v' e1 e2 e3=>?_⟩,fun y c e=>?_,I.free,I.fg,fun p hp=>?_,fun b ob e=>?_,?_⟩
 ·exact (hs.2 b (neL b o e)).trans (I.base.keep b o e n hb hx)
 ·obtain ⟨sl,e1⟩:=I.base.slot b o e n hb hx;exact ⟨sl,(hs.2 b (neL b o e)).trans e1⟩
 ·obtain ⟨o',e1⟩:=I.base.there b o e hx;exact ⟨o',(hs.2 b (neL b o e)).trans e1⟩
 ·have hj:j < X.N.length:=(Ie.mp e1).1;rw [List.getElem?_take_of_lt hj] at e2;obtain ⟨u',r',q⟩:=hlo j y v' (show (X.N++[n])[j]?=some y by rw [Iu hj];exact e1) e2 e3;have ne:y≠n:=fun z=>hn (z▸IM e1);refine ⟨u',r',?_⟩;rcases q with ⟨k,e⟩ | ⟨k,c,e,z⟩
  ·exact .inl ⟨k,by simp [ne,e]⟩
  ·exact .inr ⟨k,c,e,z.sameBut hs (cne y c e)⟩
 ·obtain ⟨w',z⟩:=I.cell y c e;exact ⟨w',z.sameBut hs (cne y c e)⟩
 ·obtain ⟨e,n,ne,nf,d⟩:=I.pin p (Io _ hp);exact ⟨(hs.2 p.1 ne).trans e,n,ne,nf,d⟩
 ·refine (I.hok b ob e).lI (fun c w' hc q=>(hs.2 c ?_).trans q) (fun _ q=>q) fun _ _ q=>q;have fr:H X.env.locals=none:=I.free;rintro rfl;rcases hc with rfl | hc
  ·rw [fr] at e;cases e
  ·rw [fr] at hc;cases hc
 ·have q:τ.length=(X.N++[n]).length:=I.len;rw [Ic] at q;rw [Jh];have:[n].length=1:=rfl;omega
theorem rq {H1:Hp} {s1:Shared} {b h3:Heap} {t C:Addr} (I:Inv X pins σ H1 s1) (ho:s2.os=s1.os) (hb:AllBare s2.gens) (u:Un (frs X.stack) [] H1 H' s1.heap s2.heap)
  (k:∀ c o,s1.heap.get? c=some o->c ∉ frs X.stack->∃ o',b.get? c=some o') (hok:HOk X.prog X.w H' b) (fl:Heap.FlyingW b X.stack ea (.ref C) (.ref t) s2.heap) (st3:b.StaysIn h3) (sl:s2.heap.UpToSlots h3) :
  Inv X pins σ H' { s2 with heap:=h3 } :=
 I.D5 (s':={ s2 with heap:=h3 }) (ch:=[]) ho (xh u k fl.1 st3 sl fl.2.2.1 I.lG) (hok.kept st3) hb fun b z=>absurd z (by simp)
end
section
variable {X:Cx} {pins:List (Addr×Obj)} {σ:St} {H1 H':Hp} {s1 s2:Shared} {ea C D t:Addr} {n dn:Str} {b:Heap} {E:Value->Shared->Prop} {Q:Flow->Shared->Prop} {b0:Stmt} {qN:List Stmt} {np hp:Pos} {rest:List ExceptHandler} {env:Env}
theorem qY (he:X.env=env) (I:Inv X pins σ H1 s1) (ho:s2.os=s1.os) (hb:AllBare s2.gens) (u:Un (frs X.stack) [] H1 H' s1.heap s2.heap)
  (k:∀ c o,s1.heap.get? c=some o->c ∉ frs X.stack->∃ o',b.get? c=some o') (hok:HOk X.prog X.w H' b) (fl:Heap.FlyingW b X.stack ea (.ref C) (.ref t) s2.heap)
  (hst:X.stack=X.env :: X.outer) (hf:X.env.frame=some X.env.locals) (xC:mP X.K C) (xD:mP X.K D) (hm:PySem.W.mroIn X.K C (.ref D)=some true) (hg:Gl X dn) (hmg:X.mg dn=some (.ref D)) (hl:X.env.kindOf n=some .local) (hn:n ∉ X.N) (nd:X.N.Nodup)
  (hdb:(dn==("__debug__" : Str))=false)
  (go:∀ oe s3,oe.cls=.ref C->Inv (Xs X ea oe n) pins (σ++[some (.ref ea)]) H' s3->wpAny (model X.prog X.w) (X.A.mark (some (.ref ea))) (execs (b0 :: qN) env) (fun f s4=>f=.next/\∃ H4 τ pins4,Inv (Xs X ea oe n) pins4 τ H4 s4/\∀ s5,Inv X pins4 (τ.take X.N.length) H4 s5->Q .next s5) (fun _ _=>False) s3) :
  wpAny (model X.prog X.w) X.A (noteFrame (.ref ea) env) (fun _ s3=>wpAny (model X.prog X.w) X.A (setFlight (.ref ea) none) (fun _ s4 =>
   wpAny (model X.prog X.w) X.A (handleBy (.ref ea) env (.ExceptHandler (some (.Name dn np)) (some n) (b0 :: qN) hp :: rest)) Q E s4) E s3) E s2:=by
 subst he;have hfr:X.A.frames=some (X.env :: X.outer):=by rw [<- hst];exact I.ok.frames
 have fl':Heap.FlyingW b (X.env :: X.outer) ea (.ref C) (.ref t) s2.heap:=by rw [<- hst];exact fl
 refine wpAny_looks_onW hfr hf fl' fun h3 hd3 sl3=>?_;refine wpAny_landsW hd3 fun h4 fl4 sl4=>?_;have I4:=rq I ho hb u k hok fl fl4.1 (sl3.trans sl4);refine wpAny_handleBy_cons (codeAny_handlers_test ?_) (by intro q;cases q);have g4:∀ {Q':Value->Shared->Prop} {E':Value->Shared->Prop},Q' (.ref D) { s2 with heap:=h4 }->wpAny (model X.prog X.w) (X.A.mark (some (.ref ea))) (eval (.Name dn np) X.env) Q' E' { s2 with heap:=h4 }:=fun {Q' E'} z =>
  Calls.Name_function_global I4.ok.kind hg (Calls.loadGlobal_global (by rw [I4.ok.glob];exact I4.mod.glob.keeps I4.bk) hmg z) hdb
 refine g4 ?_;obtain ⟨ob,hob,hobc⟩:=fl4.there;have KX:X.K.In h4:=I4.kIn;obtain ⟨bm,N,nm,q,bs,hdct,sn,sub,ab,col,dd,k0,k1,k2,k3,k5,mN,hC,hN,hni,T,cd,hci,hmr⟩:=xC.own KX;obtain ⟨bm',N',nm',q',bs',hdct',sn',sub',ab',col',dd',k0',k1',k2',k3',k5',mN',hD,hN',hni',T',_⟩:=xD.own KX;have hct:(Value.ref C :: bm).contains (.ref D)=true:=by
  unfold PySem.W.mroIn at hm;rw [hci] at hm;have hm:(if cd.mro.isEmpty then none else some (cd.mro.contains (.ref D)))=some true:=hm;rw [hmr] at hm;exact Jk hm
 refine Br hC hD hob hobc (T'.hasType rfl) hct (codeAny_handlers_suite_as ?_);refine lands_againW fl4 fun h6 fl6 sl6=>?_;have I6:=rq I ho hb u k hok fl fl6.1 ((sl3.trans sl4).trans sl6);obtain ⟨oe,ws,hoe,hoec,hoed,_⟩:=fl6.first;have hH:H' ea=none:=by
  cases z:H' ea with
  | none=>rfl
  | some o =>
   obtain ⟨ob,z⟩:=(hok ea o z).got;rw [fl6.2.1] at z;cases z
 have nfr:ea ∉ frs X.stack:=fun z=>by
  have fl6':Heap.FlyingW b X.stack ea (.ref C) (.ref t) h6:=by rw [hst];exact fl6
  obtain ⟨_,o2,e2,d2⟩:=fl6'.2.2.1.mem z;rw [hoe] at e2;cases e2;exact d2 _ hoed
 have nlo:ea≠X.env.locals:=fun z=>nfr (by
  rw [hst];unfold frs;rw [J3,hf,z];exact Ik)
 have nfs:ea ∉ X.fs:=fun z=>nfr (by
  rw [hst];unfold frs;rw [J3,hf];exact Io _ z)
 have IS:Inv (Xs X ea oe n) pins (σ++[none]) H' { s2 with heap:=h6 }:=I6.qN hoe hH nlo nfs fun v z=>by rw [hoed] at z;cases z
 have hnN:(X.N++[n])[X.N.length]?=some n:=by simp
 have len:σ.length=X.N.length:=I.len;have set1:(σ++[none]).set X.N.length (some (V.ref ea))=σ++[some (.ref ea)]:=by
  rw [<- len,List.set_append_right _ _ (Iv _)];simp
 have ndN:(X.N++[n]).Nodup:=by
  rw [Jg]
  exact ⟨nd,by simp,fun a ha c hc z=>hn (by
   have hc:c=n:=by simpa using hc
   rw [<- hc,<-z]
   exact ha)⟩
 refine kX (X:=Xs X ea oe n) IS ndN hnN (.inl hl) (v:=V.ref ea) rfl (fun s7 I7=>?_) (.inr hl);rw [set1] at I7;refine Jb (go oe s7 hoec I7) (fun f s8 z=>?_) fun _ _ z=>z.elim;obtain ⟨rfl,H4,τ,pins4,I8,fin⟩:=z;exact qz I8 hl hn (fun s9 I9=>fin s9 I9) I6.ok
end
end L2
end
section
namespace L2
open PySem PySem.Spec PyProof.Rows
end L2
end
section
namespace L2
open PySem PySem.Spec PyProof.Rows
def rX (K:Fg) (ea C:Addr):List V->Hp->VK->Prop:=fun vs H Q=>∃ c cv b,vs=[.ref ea,c]/\(∀ u,RelV c u->u=cv)/\PySem.W.kitOne K (.ref C) cv=some b/\Q (.bl b) H
section
variable {X:Cx} {ea C:Addr} {oe:Obj} {n:Str}
end
def spR (f:Fn) (C:Addr) (K:Fg):Sp:=fun vs H Q E=>fi f K vs H (Q1 E C Q) NoE
theorem v8 {f:Fn} {K:Fg} {vs:List V} {H:Hp} {Q Q':VK} {E E':XK} (h:fi f K vs H Q E) (k:∀ v H',Q v H'->Q' v H'):fi f K vs H Q' E':=by
 obtain ⟨G,ds,is,pr,outs,h1,h2,h3,h4⟩:=h;exact ⟨G,ds,is,pr,outs,h1,h2,h3,fun v H' a b=>k _ _ (h4 v H' a b)⟩
theorem pQ {f:Fn} {C:Addr} {K:Fg}:∀ vs H (Q:VK) E',fi f K vs H Q E'->∀ (Q1:VK) (E1:XK),(∀ v H',Q v H'->(v=.non->E1 (.ref C) none H')/\(v≠.non->Q1 v H'))->spR f C K vs H Q1 E1 :=
 fun vs H Q E' h Q1 E1 k=>v8 h k
theorem yK {f:Fn} {C:Addr} {K:Fg} {vs:List V} {H:Hp} {Q:VK} {E:XK} (h:spR f C K vs H Q E):vs.length=f.ms.length:=aH h
def nnD:PyData->Option PR
 | .int i=>some (.dat (.int i)) | .str x=>some (.dat (.str x)) | .bool x=>some (.dat (.bool x)) | .tuple x=>some (.dat (.tuple x)) | _=>none
def nnP:Prm:=Prm.one (fun _ v H Q=>v≠.non/\Q v H) nnD fun K F H x u pr Q hf hx hd q=>by
 cases x with
 | int i=>cases hf;exact ⟨(by rw [vInt hx];exact fun z=>nomatch z),q _ H (aY.rf H) hx⟩
 | str i=>cases hf;exact ⟨(by rw [(vStr hx).1];exact fun z=>nomatch z),q _ H (aY.rf H) hx⟩
 | bool i=>cases hf;exact ⟨(by rw [vBl hx];exact fun z=>nomatch z),q _ H (aY.rf H) hx⟩
 | tuple i=>cases hf;exact ⟨(by obtain ⟨a,xs,rfl,_⟩:=qW hx;exact fun z=>nomatch z),q _ H (aY.rf H) hx⟩
 | none=>cases hf
 | list l=>cases hf
 | dict l=>cases hf
theorem vU {K:Fg}:∀ vs H (Q:VK),nnP.r K vs H Q->∃ v,vs=[v]/\v≠.non/\Q v H:=fun vs H Q h=>by
 match vs,h with
 | [v],h=>exact ⟨v,rfl,h.1,h.2⟩
end L2
end
section
namespace L2
open PySem PySem.Spec PyProof.Rows
abbrev Xp (X:Cx) (ea:Addr) (oe:Obj):Cx:={ X with pn:=(ea,oe) :: X.pn }
section
variable {X:Cx} {pins:List (Addr×Obj)} {σ:St} {H:Hp} {s:Shared} {ea C:Addr} {oe:Obj}
theorem Cx.Ok.F6 (ok:X.Ok):(Xp X ea oe).Ok :=
 ⟨ok.mod,ok.kind,ok.glob,ok.blt,ok.above,ok.inj,ok.has,ok.cab,ok.hd,ok.frames,ok.stk,ok.exf,ok.bs,ok.bsz,ok.wB,ok.xa,ok.nt,ok.frf⟩
theorem Inv.F6 (I:Inv X ((ea,oe) :: pins) σ H s):Inv (Xp X ea oe) pins σ H s :=
 ⟨I.ok.F6,I.os,I.bare,I.base,I.loc,I.cell,I.free,I.fg,fun p hp=>I.pin p (by
  have hp:p∈(ea,oe) :: (X.pn++pins):=hp;rcases Iz.mp hp with z | z
  ·rw [z];exact Ij _ Ik
  ·rcases Ja.mp z with z | z
   ·exact IL _ z
   ·exact Ij _ (Io _ z)),I.hok,I.len⟩
theorem Inv.qi (ok:X.Ok) (I:Inv (Xp X ea oe) pins σ H s):Inv X pins σ H s :=
 ⟨ok,I.os,I.bare,I.base,I.loc,I.cell,I.free,I.fg,fun p hp=>I.pin p (Io _ hp),I.hok,I.len⟩
theorem SP.qi {D:Ends} {f:Flow} (ok:X.Ok) (h:SP (Xp X ea oe) pins D f s):SP X pins D f s:=by
 cases f with
 | next=>obtain ⟨σ',H',I',q⟩:=h;exact ⟨σ',H',I'.qi ok,q⟩
 | brk=>obtain ⟨σ',H',I',q⟩:=h;exact ⟨σ',H',I'.qi ok,q⟩
 | cont=>obtain ⟨σ',H',I',q⟩:=h;exact ⟨σ',H',I'.qi ok,q⟩
 | ret u=>obtain ⟨v,σ',H',I',q⟩:=h;exact ⟨v,σ',H',I'.qi ok,q⟩
theorem wJ (xC:mP X.K C) (oc:oe.cls=.ref C):bM (Xp X ea oe) (.builtin "isinstance") (rX X.K ea C):=by
 intro pins s σ H xs us Q I r h;obtain ⟨c,cv,b,rfl,hc,hk,hq⟩:=h;cases r with
 | cons r1 rr =>
  cases rr with
  | cons r2 r3 =>
   cases r3;cases (show _=Value.ref ea from r1);cases hc _ r2;have hp:=I.pin (ea,oe) Ik;exact J1 (o6 xC) I.kIn ⟨oe,hp.1,oc⟩ hk (fun z=>nomatch z) fun tk=>⟨.bl b,H,I.tok tk,rfl,hq⟩
def rXt (K:Fg) (ea C:Addr):List V->Hp->VK->Prop:=fun vs H Q=>∃ (tp:Addr) (Bs:List Addr) (b:Bool),vs=[.ref ea,.ref tp]/\H tp=some (.tup (Bs.map V.ref))/\PySem.W.kitAny K (.ref C) (Bs.map Value.ref)=some b/\Q (.bl b) H
theorem mM:∀ {Bs:List Addr} {its:List Value},Vals (Bs.map V.ref) its->its=Bs.map Value.ref
 | [],_,.nil=>rfl
 | B :: Bs,_,.cons r1 r2=>by rw [mM r2,show _=Value.ref B from r1];rfl
theorem lZ {K:Fg} {v:Value}:∀ {Bs:List Addr},(∀ B∈Bs,PySem.W.kitOne K v (.ref B)=some false)->PySem.W.kitAny K v (Bs.map Value.ref)=some false
 | [],_=>rfl
 | B :: Bs,h=>by
  rw [Jj];unfold PySem.W.kitAny;rw [h B Ik];exact lZ fun b hb=>h b (Io _ hb)
theorem BF (xC:mP X.K C) (oc:oe.cls=.ref C):bM (Xp X ea oe) (.builtin "isinstance") (rXt X.K ea C):=by
 intro pins s σ H xs us Q I r h;obtain ⟨tp,Bs,b,rfl,ht,hk,hq⟩:=h;obtain ⟨u,w',rfl,r1,r2⟩:=vals2 r;cases (show u=Value.ref ea from r1);cases (show w'=Value.ref tp from r2);obtain ⟨_,its,rv,⟨o,g1,g2,n,g3⟩⟩:=(show bN X.prog X.w H s.heap tp (.tup (Bs.map V.ref)) from I.hok tp _ ht);have e:=mM rv;subst e;have htp:s.heap.get? tp=some ⟨.type "tuple", o.dict,.seq (Bs.map Value.ref).toArray n,o.slots⟩:=by
  rw [g1];obtain ⟨c,dd,da,sl⟩:=o;have g2:c=.type "tuple" := g2;have g3:da=_:=g3;subst g2 g3;rfl
 have hp:=I.pin (ea,oe) Ik;exact J9 (o6 xC) I.kIn ⟨oe,hp.1,oc⟩ htp hk (fun z=>nomatch z) fun tk=>⟨.bl b,H,I.tok tk,rfl,hq⟩
def rNn (K:Fg):List V->Hp->VK->Prop:=fun vs H Q=>∃ A b,vs=[.non,.ref A]/\PySem.W.kitOne K (.type "NoneType") (.ref A)=some b/\Q (.bl b) H
theorem Bn:bM X (.builtin "isinstance") (rNn X.K):=by
 intro pins s σ H xs us Q I r h;obtain ⟨A,b,rfl,hk,hq⟩:=h;obtain ⟨u,w',rfl,r1,r2⟩:=vals2 r;cases (show u=Value.none from r1);cases (show w'=Value.ref A from r2);exact J1 PySem.W.kitx_none I.kIn True.intro hk (fun z=>nomatch z) fun tk=>⟨.bl b,H,I.tok tk,rfl,hq⟩
end
def Ee:Prm:=Prm.one (fun _ v H Q=>∀ H',aY H H'->Q (.bl (decide (v=.non))) H') (fun d=>some (.dat (.bool (sD d)))) fun K F H x u pr Q hf hx hd q=>by
 cases hf;intro H' sm;have e:decide (u=.non)=sD x:=by
  cases x with
  | none=>rw [DV hx];rfl
  | int i=>rw [vInt hx];exact IU fun z=>nomatch z
  | str i=>rw [(vStr hx).1];exact IU fun z=>nomatch z
  | bool i=>rw [vBl hx];exact IU fun z=>nomatch z
  | tuple i=>obtain ⟨a,xs,rfl,_⟩:=qW hx;exact IU fun z=>nomatch z
  | list i=>obtain ⟨a,xs,rfl,_⟩:=pP hx;exact IU fun z=>nomatch z
  | dict i=>obtain ⟨a,rfl,_⟩:=hx;exact IU fun z=>nomatch z
 rw [e];exact q _ H' sm rfl
section
variable {X:Cx}
theorem zg {spN sp:Sp} {NE:XK} {k i j:Nat} {f C Dc:Addr} {Bs:List Addr} {fd:FuncData} {ps:List Str} {g cx th n dn An:Str} {bes:List Expr} {j1 j2:Nat} {x1}
  {p1 p2 p3 p4 p5 p6 p7 p8 p9 p10 p11 np hp q1 q2 q3 q4 q5 q6 q7 q8 q9 q10 q11 q12 q13 q14 r1 r2 r3 r4 r5 r6:Pos}
  (F:dN X.prog X.w X.K X.mg X.base (CX1 X.prog X.w) k f fd ps sp) (hr:cj k X.A) (hgf:Gl X g) (hmf:X.mg g=some (.ref f)) (hk:PySem.W.keepIn X.K (.ref f)=true) (hb:Binds X.K fd ps []) (hdg:(g==("__debug__" : Str))=false)
  (hsp:∀ vs H (Q:VK) E',spN vs H Q E'->∀ (Q1:VK) (E1:XK),(∀ v H',Q v H'->(v=.non->E1 (.ref C) none H')/\(v≠.non->Q1 v H'))->sp vs H Q1 E1)
  (nd:X.N.Nodup) (hi:X.N[i]?=some cx) (hx:Loc X.env.scope cx) (hfn:X.fn cx=true\/X.env.scope.names.lookup cx=some .local) (hcv:Vis X.env.scope cx) (hcd:(cx==("__debug__" : Str))=false) (hcc:(cx==("__classdict__" : Str))=false)
  (hj:X.N[j]?=some th) (hv:Vis X.env.scope th) (hdt:(th==("__debug__" : Str))=false) (hct:(th==("__classdict__" : Str))=false) (hij:i≠j)
  (hw0:swapsWith (.Constant .none j1 p2) (some (.Name cx p1)) p3.line X.env=pure false) (hw1:swapsWith (.Call (.Name g p4) [.Name th p5] [] p6) none p7.line X.env=pure false) (hw2:swapsWith (.Name n p9) (some (.Name cx p8)) p10.line X.env=pure false)
  (hl:X.env.kindOf n=some .local) (hdn:(n==("__debug__" : Str))=false) (hcn:(n==("__classdict__" : Str))=false) (hn:n ∉ X.N) (xC:mP X.K C) (xD:mP X.K Dc) (hm:PySem.W.mroIn X.K C (.ref Dc)=some true) (hgD:Gl X dn) (hmD:X.mg dn=some (.ref Dc)) (hdd:(dn==("__debug__" : Str))=false)
  (hst:X.stack=X.env :: X.outer) (hfr:X.env.frame=some X.env.locals) (hxe:∀ e s,¬X.xe e s)
  (hgi:Gl X "isinstance") (hmi:X.mg "isinstance" = none) (hgA:Gl X An) (hmA:X.mg An=some (.ref C)) (hdA:(An==("__debug__" : Str))=false) (hgV:Gl X "ValueError") (hmV:X.mg "ValueError" = none) (hV:PySem.W.mroIn X.K C (.type "ValueError")=some true)
  (hNn:PySem.W.kitOne X.K (.type "NoneType") (.ref C)=some false) (hBs:∀ ea oe,PA (Xp X ea oe) bes (fun σ H Q=>Q (Bs.map V.ref) H)) (hBl:Bs.length<=sizeLine) (hBk:∀ B∈Bs,PySem.W.kitOne X.K (.ref C) (.ref B)=some false) :
  JSs X [.Assign [.Name cx p1] (.Constant .none j1 p2) p3,.Try [.Expr (.Call (.Name g p4) [.Name th p5] [] p6) p7] [.ExceptHandler (some (.Name dn np)) (some n) [.Assign [.Name cx p8] (.Name n p9) p10] hp] [] [] p11,
    .If (.BoolOp .Or [.UnaryOp .Not (.Call (.Name "isinstance" q1) [.Name cx q2,.Name An q3] [] q4) q5,.UnaryOp .Not (.Call (.Name "isinstance" q6) [.Name cx q7,.Name "ValueError" q8] [] q9) q10] q11) [.Return (some (.Constant (.bool false) j2 q12)) q13] [] q14,
    .Return (some (.UnaryOp .Not (.Call (.Name "isinstance" r1) [.Name cx r2,.Tuple bes x1 r3] [] r4) r5)) r6]
   (cH (tCB (Ee.r X.K) (ae (aG spN [] NE (ae (ao j) aq)) aq))):=by
 have kA:PySem.W.kitOne X.K (.ref C) (.ref C)=some true:=by unfold PySem.W.kitOne;rw [Ip (by simp)]
 have kV:PySem.W.kitOne X.K (.ref C) (.type "ValueError")=some true:=by
  unfold PySem.W.kitOne;rw [Im (by simp)];unfold PySem.W.kitCls;show (if PySem.W.kitMeta "ValueError" = true then PySem.W.subIn X.K (.ref C) (.type "ValueError") else none)=some true;rw [Ip (by decide +kernel)];exact hV
 have t1:JSs X [.If (.BoolOp .Or [.UnaryOp .Not (.Call (.Name "isinstance" q1) [.Name cx q2,.Name An q3] [] q4) q5,.UnaryOp .Not (.Call (.Name "isinstance" q6) [.Name cx q7,.Name "ValueError" q8] [] q9) q10] q11) [.Return (some (.Constant (.bool false) j2 q12)) q13] [] q14,
    .Return (some (.UnaryOp .Not (.Call (.Name "isinstance" r1) [.Name cx r2,.Tuple bes x1 r3] [] r4) r5)) r6]
   (b8 (iO (tOr (pe (tB (tCB (rNn X.K) (ae (ao i) (ae (tC (.ref C)) aq))))) (fun _ _ _=>False)) (cH (tC (.bl false))) cA) qZ) :=
  cF (lJ (eW (yX (i0 (qV (eB Bn hgi hmi (by decide +kernel) (eA (ar i hi hcv hcd hcc) (eA (jY hgA hmA rfl hdA) aB rfl) rfl) rfl rfl (by decide) rfl) fun _=>rfl)) (nT ⟨fun _ _ _ _ _ _ h=>absurd h id⟩))) (cM (eZ eBl)) me) (cM Ap)
 have t2:∀ ea oe,oe.cls=.ref C->JSs (Xp X ea oe) [.If (.BoolOp .Or [.UnaryOp .Not (.Call (.Name "isinstance" q1) [.Name cx q2,.Name An q3] [] q4) q5,.UnaryOp .Not (.Call (.Name "isinstance" q6) [.Name cx q7,.Name "ValueError" q8] [] q9) q10] q11) [.Return (some (.Constant (.bool false) j2 q12)) q13] [] q14,
    .Return (some (.UnaryOp .Not (.Call (.Name "isinstance" r1) [.Name cx r2,.Tuple bes x1 r3] [] r4) r5)) r6]
   (b8 (iO (tOr (pe (tB (tCB (rX X.K ea C) (ae (ao i) (ae (tC (.ref C)) aq))))) (pe (tB (tCB (rX X.K ea C) (ae (ao i) (ae (tC (.ty "ValueError")) aq)))))) (cH (tC (.bl false))) cA)
    (cH (sy (tCB (rXt X.K ea C) (ae (ao i) (ae (gz (fun σ H Q=>Q (Bs.map V.ref) H)) aq)))))):=fun ea oe oc =>
  cF (lJ (eW (yX (i0 (qV (eB (wJ xC oc) hgi hmi (by decide +kernel) (eA (ar i hi hcv hcd hcc) (eA (jY hgA hmA rfl hdA) aB rfl) rfl) rfl rfl (by decide) rfl) fun _=>rfl))
    (nT (i0 (qV (eB (wJ xC oc) hgi hmi (by decide +kernel) (eA (ar i hi hcv hcd hcc) (eA (vg (v:=.ty "ValueError") hgV hmV PyProof.Rows.Boot.«ValueError» rfl (by decide) rfl) aB rfl) rfl) rfl rfl (by decide) rfl) fun _=>rfl))))) (cM (eZ eBl)) me)
   (cM (eZ (GK (eB (BF xC oc) hgi hmi (by decide +kernel) (eA (ar i hi hcv hcd hcc) (eA (iE ⟨hBs ea oe⟩) aB rfl) rfl) rfl rfl (by decide) rfl))))
 refine ⟨fun pins s σ H D I h=>?_⟩;have il:i < σ.length:=by rw [I.len];exact (Ie.mp hi).1
 have h:(ao j) σ H fun x H3=>spN ([x]++[]) H3 (fun v H'=>∀ H'',aY H' H''->D.rt (.bl (decide (v=.non))) H'') NE:=h;obtain ⟨y,ej,h⟩:=h;rw [Jd] at h;refine JU (thn ((gC (i:=i) Al nd hi hx hw0 hfn).h pins s σ H { nx:=fun σ' H'=>σ'=σ.set i (some .non)/\H'=H,rt:=fun _ _=>False } I ⟨rfl,rfl⟩) fun fl s1 q=>?_);cases fl with
 | ret v=>obtain ⟨_,_,_,_,_,q⟩:=q;exact q.elim
 | brk=>obtain ⟨_,_,_,q⟩:=q;exact q.elim
 | cont=>obtain ⟨_,_,_,q⟩:=q;exact q.elim
 | next =>
 obtain ⟨σ1,H1,I1,rfl,rfl⟩:=q;have ej1:(σ.set i (some V.non))[j]?=some (some y):=by rw [Ih hij];exact ej
 refine JU (wpAny_Try_except ?_);refine JU (wpAny_Expr_any ?_ I1.quiet hw1);refine Kq (jj I1 hgf hmf ?_ hdg);have ha:JA X [.Name th p5] (ae (ao j) aq):=eA (ar j hj hv hdt hct) aB rfl;refine PySem.W.callWith_K (h₀:=X.base) I1.ok.mod.kin hk (Jb (ha.h p6 pins _ _ H1 (fun vs H'=>vs=[y]/\H'=H1) I1 ⟨y,ej1,rfl,rfl⟩) (fun us s3 z=>?_) fun e s z=>(hxe e s z).elim) (bj rfl) (dc rfl);obtain ⟨vs,H3,I3,r3,rfl,rfl⟩:=z;refine ⟨I3.kIn,?_⟩;have q4:=hsp _ _ _ _ h (fun _ H'=>∀ H'',aY H' H''->D.rt (.bl false) H'') (fun c _ H'=>c=.ref C/\∀ H'',aY H' H''->D.rt (.bl true) H'') fun v H' z =>
  ⟨fun e=>⟨rfl,fun H'' sm=>by have:=z H'' sm;rwa [IP e] at this⟩,fun ne H'' sm=>by have:=z H'' sm;rwa [IU ne] at this⟩
 have hlen:us.length=ps.length:=by rw [<- r3.length];exact F.len _ _ _ _ q4
 have hb':BindsTo s3 fd ⟨us,[]⟩ (ps.zip us):=by
  have z:=hb s3 us I3.kIn (by rw [Jd];exact hlen);rw [Jd] at z;exact z
 refine wpAny_call (codeAny_mono (F.run X.A X.stack s3 H3 ⟨us,[]⟩ us _ _ _ hr I3.Cb hb' r3 q4) fun r s' hq=>?_);cases r with
 | error e =>
  obtain ⟨ea,C',t,H',b,rfl,ho,hbr,u,kk,hok,fl,ec,post⟩:=hq;cases ec;refine qY (D:=Dc) rfl I3 ho hbr u kk hok fl hst hfr xC xD hm hgD hmD hl hn nd hdd fun oe s5 oc I5=>?_;have ndN:(X.N++[n]).Nodup:=by
   rw [Jg]
   exact ⟨nd,by simp,fun a ha c hc z=>hn (by
    have hc:c=n:=by simpa using hc
    rw [<- hc,<-z];exact ha)⟩
  have iN:i < X.N.length:=(Ie.mp hi).1;have len:(σ.set i (some V.non)).length=X.N.length:=I1.len;have ps:PS (Xs X ea oe n) (.Assign [.Name cx p8] (.Name n p9) p10) (dB (ao X.N.length) (aZ i)) :=
   xK (X:=Xs X ea oe n) (i:=i) ndN (by show (X.N++[n])[i]?=some cx;rw [Iu iN];exact hi) hx (wR (by show (X.N++[n])[X.N.length]?=some n;simp) (.inl hl) hdn hcn) hw2 hfn
  have run:=t7 ps pins s5 _ _ { nx:=fun τ H4=>τ=(σ.set i (some V.non)++[some (V.ref ea)]).set i (some (V.ref ea))/\H4=H',rt:=fun _ _=>False } I5 ⟨_,by rw [<- len];simp,rfl,rfl⟩;refine Jb run (fun fl s6 z=>?_) fun _ _ z=>z.elim;cases fl with
  | next =>
   obtain ⟨τ,H4,I6,rfl,rfl⟩:=z;have I6':Inv (Xs X ea oe n) ((ea,oe) :: pins) ((σ.set i (some V.non)++[some (V.ref ea)]).set i (some (V.ref ea))) H4 s6:=I6.cP fun p hp=>by
    rcases Iz.mp hp with z | z
    ·rw [z];exact I6.pin (ea,oe) Ik
    ·exact I6.pin p (Ij _ z)
   refine ⟨rfl,_,_,_,I6',fun s7 I7=>?_⟩;rw [List.set_append_left _ _ (by rw [len];exact iN),List.take_append_of_le_length (by rw [IW,len];exact Iv _),Jx (by rw [IW,len];exact Iv _),JH] at I7;have ei:(σ.set i (some (V.ref ea)))[i]?=some (some (V.ref ea)):=Ir il;refine Jb ((t2 ea oe oc).h pins s7 _ H4 D I7.F6 ?_) (fun f s z=>z.qi I.ok) fun _ _ z=>z;refine ⟨_,ei,.ref C,.ref C,true,rfl,(fun u z=>z),kA,true,rfl,?_⟩;dsimp only;rw [Im (by decide)];refine ⟨_,ei,.ty "ValueError", .type "ValueError", true,rfl,(fun u z=>z),kV,true,rfl,?_⟩;dsimp only;rw [Im (by decide)];refine ⟨_,ei,by rw [Ig];exact hBl,fun tp htp=>⟨tp,Bs,false,rfl,aF,lZ hBk,false,rfl,post _ (aY.nw _ htp)⟩⟩
  | ret v=>obtain ⟨_,_,_,_,_,q⟩:=z;exact q.elim
  | brk=>obtain ⟨_,_,_,q⟩:=z;exact q.elim
  | cont=>obtain ⟨_,_,_,q⟩:=z;exact q.elim
 | ok fl =>
  cases fl with
  | next=>exact False.elim hq
  | brk=>exact False.elim hq
  | cont=>exact False.elim hq
  | ret u =>
   obtain ⟨v,H4,I4,r4,q4⟩:=I3.after hq;refine Ko (Ko ?_);have ei:(σ.set i (some V.non))[i]?=some (some V.non):=Ir il;refine t1.h pins s' _ H4 D I4 ⟨_,ei,C,false,rfl,hNn,false,rfl,?_⟩;dsimp only;rw [Ip (by decide)];exact q4 _ (aY.refl _)
theorem tJ {spN sp:Sp} {NE:XK} {k:Nat} {f C:Addr} {fd:FuncData} {ps:List Str} {a:Expr} {as:List Expr} {ta:TA} {g:Str} {p3 p4:Pos} {r:List V->Hp->VK->Prop}
  (F:dN X.prog X.w X.K X.mg X.base (CX1 X.prog X.w) k f fd ps sp) (hr:cj k X.A) (hgf:Gl X g) (hmf:X.mg g=some (.ref f)) (hk:PySem.W.keepIn X.K (.ref f)=true) (hb:Binds X.K fd ps [])
  (ha:JA X (a :: as) ta) (s1:PySem.W.isStarred a=false) (s2:as.all (fun e=>!PySem.W.isStarred e)=true) (hdg:(g==("__debug__" : Str))=false)
  (hsp:∀ vs H (Q:VK) E',spN vs H Q E'->∀ (Q1:VK) (E1:XK),(∀ v H',Q v H'->(v=.non->E1 (.ref C) none H')/\(v≠.non->Q1 v H'))->sp vs H Q1 E1)
  (hn:∀ vs H (Q:VK),r vs H Q->∃ v,vs=[v]/\v≠.non/\Q v H):JE X (.Call (.Name g p3) (a :: as) [] p4) (tCB r (ae (aG spN [] NE ta) aq)):=by
 refine ⟨fun pins s σ H Q I h=>?_⟩;refine Kq (jj I hgf hmf ?_ hdg);refine PySem.W.callWith_K (h₀:=X.base) I.ok.mod.kin hk (thn (ha.h p4 pins _ σ H _ I h) fun us s3 z=>?_) (bj s1) (dc s2);obtain ⟨vs,H3,I3,r3,q3⟩:=z;refine ⟨I3.kIn,?_⟩;have q3:spN (vs++[]) H3 (fun v H'=>r [v] H' Q) NE:=q3;rw [Jd] at q3;have q4:=hsp _ _ _ _ q3 Q (fun _ _ _=>False) fun v H' z=>by
  obtain ⟨w,e,n,q⟩:=hn _ _ _ z;cases e;exact ⟨fun z=>(n z).elim,fun _=>q⟩
 have hlen:us.length=ps.length:=by rw [<- r3.length];exact F.len _ _ _ _ q4
 have hb':BindsTo s3 fd ⟨us,[]⟩ (ps.zip us):=by
  have z:=hb s3 us I3.kIn (by rw [Jd];exact hlen);rw [Jd] at z;exact z
 refine wpAny_call (codeAny_mono (F.run X.A X.stack s3 H3 ⟨us,[]⟩ us vs _ _ hr I3.Cb hb' r3 q4) fun r s' hq=>?_);cases r with
 | error e =>
  obtain ⟨ea,C',t,H',b,rfl,ho,hbr,u,kk,hok,fl,post⟩:=hq;exact post.elim
 | ok fl =>
  cases fl with
  | next=>exact False.elim hq
  | brk=>exact False.elim hq
  | cont=>exact False.elim hq
  | ret u =>
   obtain ⟨v,H4,I4,r4,q4⟩:=I3.after hq;exact ⟨v,H4,I4,r4,q4⟩
theorem mP.lk {K:Fg} {C:Addr} (x:mP K C):∃ cd bm,PySem.W.clsIn K C=some cd/\cd.mro=.ref C :: bm/\PySem.W.typeIn K (.ref C)=some (.type "type"):=by
 have q:=x.ex;unfold PySem.W.excIn at q;split at q
 ·rename_i dd cd sl ho;split at q
  ·rename_i C' bm k0 k1 k2 k3 n k5 hm hs;simp only [Ji,IZ,Kd] at q;obtain ⟨⟨⟨⟨⟨rfl,rfl⟩,hdel⟩,ht⟩,hok⟩,hni⟩:=q;exact ⟨cd,bm,by unfold PySem.W.clsIn;rw [ho],hm,by show Option.map (fun x=>x.cls) (K.lookup C')=_;rw [ho];rfl⟩
  ·cases q
 ·cases q
theorem jo {K:Fg} {C B:Addr} {dd:Option Addr} {cd:ClassData} {sl:Array (Option Value)} (x:mP K C) (y:K.lookup B=some ⟨.type "type", dd,.cls cd,sl⟩) (h:PySem.W.mroIn K C (.ref B)=some false):PySem.W.kitOne K (.ref C) (.ref B)=some false:=by
 obtain ⟨c1,b1,e1,m1,t1⟩:=x.lk;unfold PySem.W.kitOne;rw [Im]
 ·unfold PySem.W.kitCls;show (if ((PySem.W.clsIn K B).isSome&&PySem.W.typeIn K (.ref B)==some (.type "type"))=true then PySem.W.subIn K (.ref C) (.ref B) else none)=some false;have k1:PySem.W.clsIn K B=some cd:=by unfold PySem.W.clsIn;rw [y]
  have k2:PySem.W.typeIn K (.ref B)=some (.type "type"):=by show Option.map (fun x=>x.cls) (K.lookup B)=_;rw [y];rfl
  rw [k1,k2,Ip (by simp)];exact h
 ·intro q;have q:C=B:=Value.ref.inj (IZ.mp q);subst q;unfold PySem.W.mroIn at h;rw [e1] at h;have h:(if c1.mro.isEmpty then none else some (c1.mro.contains (.ref C)))=some false:=h;rw [m1] at h;have h:(Value.ref C :: b1).contains (.ref C)=false:=Jk h;simp at h
theorem Au {K:Fg} {C:Addr} (x:mP K C):PySem.W.kitOne K (.type "NoneType") (.ref C)=some false:=by
 obtain ⟨c1,b1,e1,m1,t1⟩:=x.lk;unfold PySem.W.kitOne;rw [Im (by intro q;cases IZ.mp q)];unfold PySem.W.kitCls;show (if ((PySem.W.clsIn K C).isSome&&PySem.W.typeIn K (.ref C)==some (.type "type"))=true then PySem.W.subIn K (.type "NoneType") (.ref C) else none)=some false;rw [e1,t1,Ip (by simp)]
 with_unfolding_all rfl
end
end L2
end
section
namespace K07
open PySem PySem.Spec PyProof.Rows L2
def top (i:Nat):Stmt:=PySem.Challenge.pw_webshapes_k07_no_webs.main.body.getD i (.Pass ⟨0,0,0,0⟩)
abbrev aj:Stmt:=top 11
abbrev aJ:Stmt:=top 12
abbrev aC:Stmt:=top 13
abbrev ay:Stmt:=top 14
abbrev aO:Stmt:=top 15
abbrev aP:Stmt:=top 16
abbrev aL:Stmt:=top 17
abbrev aD:Stmt:=top 18
abbrev aN:Stmt:=top 20
abbrev aE:Stmt:=top 21
abbrev ah:Stmt:=top 22
abbrev au:Stmt:=top 25
abbrev aS:Stmt:=top 26
abbrev bW:Stmt:=top 28
abbrev bx:Stmt:=top 29
abbrev bB:Stmt:=top 30
abbrev bD:Stmt:=top 31
abbrev ak:Stmt:=top 32
abbrev bT:Stmt:=top 33
abbrev aT:Stmt:=top 34
abbrev aM:Stmt:=top 35
abbrev bK:Stmt:=top 36
structure Adr where
 bP:Addr
 dt:FuncData
 d8:Addr
 jP:FuncData
 dh:Addr
 gI:FuncData
 cC:Addr
 fH:FuncData
 eD:Addr
 jL:FuncData
 eH:Addr
 jG:FuncData
 eh:Addr
 jM:FuncData
 cY:Addr
 gP:FuncData
 eO:Addr
 ja:FuncData
 cU:Addr
 gW:FuncData
 bo:Addr
 cg:FuncData
 cE:Addr
 fx:FuncData
 fR:Addr
 lH:FuncData
 tU:Addr
 zE:FuncData
 lY:Addr
 tZ:FuncData
 mR:Addr
 uW:FuncData
 mH:Addr
 tL:FuncData
 cf:Addr
 eM:FuncData
 t9:Addr
 y4:FuncData
 gp:Addr
 lr:FuncData
 eo:Addr
 jx:FuncData
 md:Addr
 nY:FuncData
 bI:Addr
 cN:Addr
 eQ:Addr
 fX:Addr
 gm:Addr
 fO:Addr
 jT:Addr
 gZ:Tok
 mY:Tok
 j6:Tok
structure Txt (K:Fg) (mg:Str->Option Value) (t:Adr):Prop where
 dH:Fun K "are_letters" "are_letters" aj t.bP t.dt
 gc:Binds K t.dt ["thing", "fewest"] []
 gf:mg "are_letters" = some (.ref t.bP)
 gw:Fun K "is_name" "is_name" aJ t.d8 t.jP
 ju:Binds K t.jP ["thing"] []
 jC:mg "is_name" = some (.ref t.d8)
 j7:Fun K "is_whole" "is_whole" aC t.dh t.gI
 qC:Binds K t.gI ["thing"] []
 qq:mg "is_whole" = some (.ref t.dh)
 jO:Fun K "is_number" "is_number" ay t.cC t.fH
 og:Binds K t.fH ["thing"] []
 oh:mg "is_number" = some (.ref t.cC)
 mW:Fun K "is_said" "is_said" aO t.eD t.jL
 sV:Binds K t.jL ["thing"] []
 sg:mg "is_said" = some (.ref t.eD)
 lV:Fun K "is_node" "is_node" aP t.eH t.jG
 sL:Binds K t.jG ["thing"] []
 rG:mg "is_node" = some (.ref t.eH)
 ng:Fun K "kind_of" "kind_of" aL t.eh t.jM
 rg:Binds K t.jM ["node"] []
 uG:mg "kind_of" = some (.ref t.eh)
 kF:Fun K "node_key" "node_key" aD t.cY t.gP
 qS:Binds K t.gP ["node"] []
 qg:mg "node_key" = some (.ref t.cY)
 mG:Fun K "is_fact" "is_fact" aN t.eO t.ja
 tD:Binds K t.ja ["thing"] []
 sR:mg "is_fact" = some (.ref t.eO)
 qr:Fun K "fact_key" "fact_key" aE t.cU t.gW
 qw:Binds K t.gW ["fact"] []
 qI:mg "fact_key" = some (.ref t.cU)
 dO:Fun K "facts_in_order" "facts_in_order" ah t.bo t.cg
 iI:Binds K t.cg ["facts"] []
 iG:mg "facts_in_order" = some (.ref t.bo)
 jl:Fun K "are_facts" "are_facts" au t.cE t.fx
 n6:Binds K t.fx ["things"] []
 oq:mg "are_facts" = some (.ref t.cE)
 gq:Fun K "web_of" "web_of" aS t.fR t.lH
 iJ:Binds K t.lH ["facts"] []
 iP:mg "web_of" = some (.ref t.fR)
 BG:Fun K "_law_pen" "_law_pen" bW t.tU t.zE
 Gm:Binds K t.zE ["_law_script"] []
 DW:mg "_law_pen" = some (.ref t.tU)
 br:Fun K "_law_take" "_law_take" bx t.lY t.tZ
 bF:Binds K t.tZ ["_law_pen_here", "_law_most"] []
 bG:mg "_law_take" = some (.ref t.lY)
 lW:Fun K "_law_word" "_law_word" bB t.mR t.uW
 pM:Binds K t.uW ["_law_pen_here", "_law_many"] []
 oV:mg "_law_word" = some (.ref t.mR)
 xj:Fun K "_law_fact" "_law_fact" bD t.mH t.tL
 AS:Binds K t.tL ["_law_pen_here"] []
 Dl:mg "_law_fact" = some (.ref t.mH)
 iz:Fun K "_law_many_facts" "_law_many_facts" ak t.cf t.eM
 mD:Binds K t.eM ["_law_pen_here"] []
 my:mg "_law_many_facts" = some (.ref t.cf)
 Ax:Fun K "_law_odd" "_law_odd" bT t.t9 t.y4
 FQ:Binds K t.y4 ["_law_pen_here"] []
 DU:mg "_law_odd" = some (.ref t.t9)
 o5:Fun K "_law_spoilt" "_law_spoilt" aT t.gp t.lr
 wD:Binds K t.lr ["_law_pen_here", "_law_facts"] []
 vt:mg "_law_spoilt" = some (.ref t.gp)
 fQ:Fun K "_law_refused" "_law_refused" aM t.eo t.jx
 jK:Binds K t.jx ["_law_thing"] []
 jE:mg "_law_refused" = some (.ref t.eo)
 EZ:Fun K "law" "law" bK t.md t.nY
 Ha:Binds K t.nY ["_law_script"] []
 FK:mg "law" = some (.ref t.md)
 z_ValueError:mg "ValueError" = none
 z_abs:mg "abs" = none
 z_all:mg "all" = none
 z_bool:mg "bool" = none
 z_int:mg "int" = none
 z_isinstance:mg "isinstance" = none
 z_len:mg "len" = none
 z_list:mg "list" = none
 z_range:mg "range" = none
 z_sorted:mg "sorted" = none
 z_str:mg "str" = none
 z_tuple:mg "tuple" = none
 g_GREATEST_NUMBER:mg "GREATEST_NUMBER" = some (Value.int 999999999999999999999999999999 t.gZ)
 g_MOST_FACTS:mg "MOST_FACTS" = some (Value.int 400 t.mY)
 g_MOST_LETTERS:mg "MOST_LETTERS" = some (Value.int 8 t.j6)
 lD:mg "NoWeb" = some (.ref t.bI)
 kK:mP K t.bI
 kY:mg "ShapeError" = some (.ref t.cN)
 kG:mP K t.cN
 mr_NoWeb_ShapeError:PySem.W.mroIn K t.bI (.ref t.cN)=some true
 mv_NoWeb:PySem.W.mroIn K t.bI (.type "ValueError")=some true
 qh:mg "Missing" = some (.ref t.eQ)
 tf:mg "NoFact" = some (.ref t.fX)
 rO:mg "NoNode" = some (.ref t.gm)
 uN:mg "NoText" = some (.ref t.fO)
 wg:mg "Twice" = some (.ref t.jT)
 vn:PySem.W.kitOne K (.type "NoneType") (.ref t.bI)=some false
 k2_NoWeb_Missing:PySem.W.kitOne K (.ref t.bI) (.ref t.eQ)=some false
 k2_NoWeb_NoFact:PySem.W.kitOne K (.ref t.bI) (.ref t.fX)=some false
 k2_NoWeb_NoNode:PySem.W.kitOne K (.ref t.bI) (.ref t.gm)=some false
 k2_NoWeb_NoText:PySem.W.kitOne K (.ref t.bI) (.ref t.fO)=some false
 k2_NoWeb_Twice:PySem.W.kitOne K (.ref t.bI) (.ref t.jT)=some false
theorem jZ:aI ["thing", "fewest"] ["thing", "fewest"] (aa aj):=⟨rfl,rfl,rfl,by decide +kernel,rfl,by decide +kernel,by decide +kernel⟩
theorem qL:aI ["thing"] ["thing"] (aa aJ):=⟨rfl,rfl,rfl,by decide +kernel,rfl,by decide +kernel,by decide +kernel⟩
theorem om:aI ["thing"] ["thing"] (aa aC):=⟨rfl,rfl,rfl,by decide +kernel,rfl,by decide +kernel,by decide +kernel⟩
theorem lQ:aI ["thing"] ["thing"] (aa ay):=⟨rfl,rfl,rfl,by decide +kernel,rfl,by decide +kernel,by decide +kernel⟩
theorem qJ:aI ["thing"] ["thing"] (aa aO):=⟨rfl,rfl,rfl,by decide +kernel,rfl,by decide +kernel,by decide +kernel⟩
theorem qD:aI ["thing"] ["thing"] (aa aP):=⟨rfl,rfl,rfl,by decide +kernel,rfl,by decide +kernel,by decide +kernel⟩
theorem qa:aI ["node"] ["node"] (aa aL):=⟨rfl,rfl,rfl,by decide +kernel,rfl,by decide +kernel,by decide +kernel⟩
theorem jf:aI ["node", "kind"] ["node"] (aa aD):=⟨rfl,rfl,rfl,by decide +kernel,rfl,by decide +kernel,by decide +kernel⟩
theorem qj:aI ["thing"] ["thing"] (aa aN):=⟨rfl,rfl,rfl,by decide +kernel,rfl,by decide +kernel,by decide +kernel⟩
theorem ot:aI ["fact"] ["fact"] (aa aE):=⟨rfl,rfl,rfl,by decide +kernel,rfl,by decide +kernel,by decide +kernel⟩
theorem bZ:aI ["facts", "once", "fact"] ["facts"] (aa ah):=⟨rfl,rfl,rfl,by decide +kernel,rfl,by decide +kernel,by decide +kernel⟩
theorem nh:aI ["things"] ["things"] (aa au):=⟨rfl,rfl,rfl,by decide +kernel,rfl,by decide +kernel,by decide +kernel⟩
theorem lX:aI ["facts", "web"] ["facts"] (aa aS):=⟨rfl,rfl,rfl,by decide +kernel,rfl,by decide +kernel,by decide +kernel⟩
theorem Dg:aI ["_law_script"] ["_law_script"] (aa bW):=⟨rfl,rfl,rfl,by decide +kernel,rfl,by decide +kernel,by decide +kernel⟩
theorem d5:aI ["_law_pen_here", "_law_most", "_law_at", "_law_cell", "_law_n", "_law_found"] ["_law_pen_here", "_law_most"] (aa bx):=⟨rfl,rfl,rfl,by decide +kernel,rfl,by decide +kernel,by decide +kernel⟩
theorem nL:aI ["_law_pen_here", "_law_many", "_law_word_here"] ["_law_pen_here", "_law_many"] (aa bB):=⟨rfl,rfl,rfl,by decide +kernel,rfl,by decide +kernel,by decide +kernel⟩
theorem tm:aI ["_law_pen_here", "_law_node"] ["_law_pen_here"] (aa bD):=⟨rfl,rfl,rfl,by decide +kernel,rfl,by decide +kernel,by decide +kernel⟩
theorem cu:aI ["_law_pen_here", "_law_letters", "_law_turn", "_law_ways"] ["_law_pen_here"] (aa ak):=⟨rfl,rfl,rfl,by decide +kernel,rfl,by decide +kernel,by decide +kernel⟩
theorem ml:aI ["_law_pen_here", "_law_bad", "_law_end", "_law_some"] ["_law_pen_here"] (aa bT):=⟨rfl,rfl,rfl,by decide +kernel,rfl,by decide +kernel,by decide +kernel⟩
theorem eT:aI ["_law_pen_here", "_law_facts", "_law_way", "_law_some", "_law_at"] ["_law_pen_here", "_law_facts"] (aa aT):=⟨rfl,rfl,rfl,by decide +kernel,rfl,by decide +kernel,by decide +kernel⟩
theorem ke:aI ["_law_thing", "_law_caught", "_ex"] ["_law_thing"] (aa aM):=⟨rfl,rfl,rfl,by decide +kernel,rfl,by decide +kernel,by decide +kernel⟩
theorem iZ:aI ["_law_script", "_law_pen_here", "_law_facts", "_law_many", "_law_some", "_law_web", "_law_k"] ["_law_script"] (aa bK):=⟨rfl,rfl,rfl,by decide +kernel,rfl,by decide +kernel,by decide +kernel⟩
def gds:List PyData:=[]
def gav (t:Adr):Nat->V:=fun g=>([]:List V)[g]?.getD .non
theorem cG {K:Fg} {mg:Str->Option Value} {t:Adr} (T:Txt K mg t):∀ g d,gds[g]?=some d->∀ F H,Dm K F H d (gav t g):=by
 intro g d h F H;cases h
def cS:XS :=
 (.seq (.ifs (.or (.not (.tst (.prm (nq "str") (.cons (.var 0) .nil)))) (.not (.tst (.chn leP leP (.var 1) (.prm fk (.cons (.var 0) .nil)) (.cst (.i 8)))))) (.ret (.cst (.b false))) .skip)
  (.ret (.prm zU (.cons (.cmp [] (.str (.var 0)) .yes (.chn leP leP (.cst (.s "a" (by decide +kernel) (af _))) (.var 0) (.cst (.s "z" (by decide +kernel) (af _))))) .nil))))
def b6:Fn:=ix gds [.dat,.dat] 2 cS
def cQ (K:Fg):Sp:=fi b6 K
def gM:XS :=
 (.ret (.call b6 (.cons (.var 0) (.cons (.cst (.i 1)) .nil))))
def df:Fn:=ix gds [.dat] 1 gM
def fe (K:Fg):Sp:=fi df K
def fy:XS :=
 (.ret (.ug (.prm (nq "int") (.cons (.var 0) .nil)) (.zV (.prm (nq "bool") (.cons (.var 0) .nil)))))
def fI:Fn:=ix gds [.dat] 1 fy
def jh (K:Fg):Sp:=fi fI K
def d7:XS :=
 (.ret (.ug (.call fI (.cons (.var 0) .nil)) (.prm leP (.cons (.prm yy (.cons (.var 0) .nil)) (.cons (.cst (.i 999999999999999999999999999999)) .nil)))))
def eE:Fn:=ix gds [.dat] 1 d7
def iC (K:Fg):Sp:=fi eE K
def g7:XS :=
 (.ret (.ug (.prm (nq "tuple") (.cons (.var 0) .nil)) (.ug (.prm eqP (.cons (.prm fk (.cons (.var 0) .nil)) (.cons (.cst (.i 1)) .nil))) (.call b6 (.cons (.prm ixP (.cons (.var 0) (.cons (.cst (.i 0)) .nil))) (.cons (.cst (.i 0)) .nil))))))
def gQ:Fn:=ix gds [.dat] 1 g7
def kE (K:Fg):Sp:=fi gQ K
def gH:XS :=
 (.ret (.orv (.call df (.cons (.var 0) .nil)) (.orv (.call eE (.cons (.var 0) .nil)) (.call gQ (.cons (.var 0) .nil)))))
def g9:Fn:=ix gds [.dat] 1 gH
def ki (K:Fg):Sp:=fi g9 K
def gX:XS :=
 (.seq (.ifs (.tst (.prm (nq "str") (.cons (.var 0) .nil))) (.ret (.cst (.s "thing" (by decide +kernel) (af _)))) .skip)
  (.seq (.ifs (.tst (.prm (nq "tuple") (.cons (.var 0) .nil))) (.ret (.cst (.s "said" (by decide +kernel) (af _)))) .skip)
  (.ret (.cst (.s "number" (by decide +kernel) (af _))))))
def ig:Fn:=ix gds [.dat] 1 gX
def ka (K:Fg):Sp:=fi ig K
def fz:XS :=
 (.seq (.fq 1 (.call ig (.cons (.var 0) .nil)))
  (.seq (.ifs (.tst (.prm eqP (.cons (.var 1) (.cons (.cst (.s "number" (by decide +kernel) (af _))) .nil)))) (.ret (.tup (.cons (.cst (.i 0)) (.cons (.var 0) (.cons (.cst (.s "" (by decide +kernel) (af _))) .nil))))) .skip)
  (.seq (.ifs (.tst (.prm eqP (.cons (.var 1) (.cons (.cst (.s "said" (by decide +kernel) (af _))) .nil)))) (.ret (.tup (.cons (.cst (.i 1)) (.cons (.cst (.i 0)) (.cons (.prm ixP (.cons (.var 0) (.cons (.cst (.i 0)) .nil))) .nil))))) .skip)
  (.ret (.tup (.cons (.cst (.i 2)) (.cons (.cst (.i 0)) (.cons (.var 0) .nil))))))))
def fF:Fn:=ix gds [.dat] 2 fz
def jH (K:Fg):Sp:=fi fF K
def gO:XS :=
 (.seq (.ifs (.or (.not (.tst (.prm (nq "tuple") (.cons (.var 0) .nil)))) (.tst (.prm neP (.cons (.prm fk (.cons (.var 0) .nil)) (.cons (.cst (.i 3)) .nil))))) (.ret (.cst (.b false))) .skip)
  (.ret (.ug (.call df (.cons (.prm ixP (.cons (.var 0) (.cons (.cst (.i 0)) .nil))) .nil)) (.ug (.call df (.cons (.prm ixP (.cons (.var 0) (.cons (.cst (.i 1)) .nil))) .nil)) (.call g9 (.cons (.prm ixP (.cons (.var 0) (.cons (.cst (.i 2)) .nil))) .nil))))))
def gY:Fn:=ix gds [.dat] 1 gO
def kj (K:Fg):Sp:=fi gY K
def fu:XS :=
 (.ret (.tup (.cons (.prm ixP (.cons (.var 0) (.cons (.cst (.i 0)) .nil))) (.cons (.prm ixP (.cons (.var 0) (.cons (.cst (.i 1)) .nil))) (.cons (.call fF (.cons (.prm ixP (.cons (.var 0) (.cons (.cst (.i 2)) .nil))) .nil)) .nil)))))
def bU:Fn:=ix gds [.dat] 1 fu
def nU (K:Fg):Sp:=fi bU K
def bC:XS :=
 (.seq (.x8 1 (.prm yC .nil))
  (.seq (.fr 2 (.sq (.var 0)) (.sto qA 1 (.var 2) (.cst (.b true))))
  (.ret (.prm (Sg.mX fyS bU rfl) (.cons (.var 1) .nil)))))
def bz:Fn:=ix gds [.dat] 3 bC
def dg (K:Fg):Sp:=fi bz K
def cL:XS :=
 (.ret (.prm zU (.cons (.cmp [] (.sq (.var 0)) .yes (.call gY (.cons (.var 0) .nil))) .nil)))
def cK:Fn:=ix gds [.dat] 1 cL
def iu (K:Fg):Sp:=fi cK K
def cw:XS :=
 (.seq (.ifs (.or (.not (.tst (.prm yc (.cons (.var 0) .nil)))) (.not (.tst (.call cK (.cons (.var 0) .nil))))) (.ret (.cst .n)) .skip)
  (.seq (.fq 1 (.prm jm (.cons (.call bz (.cons (.var 0) .nil)) .nil)))
  (.seq (.ifs (.tst (.prm gtP (.cons (.prm fk (.cons (.var 1) .nil)) (.cons (.cst (.i 400)) .nil)))) (.ret (.cst .n)) .skip)
  (.ret (.prm nnP (.cons (.var 1) .nil))))))
def bg:Fn:=ix gds [.dat] 2 cw
def gj (K:Fg):Sp:=fi bg K
def wH:XS :=
 (.ret (.dsp (.cons (.cst (.s "script" (by decide +kernel) (af _))) (.var 0) (.cons (.cst (.s "at" (by decide +kernel) (af _))) (.cst (.i 0)) (.cons (.cst (.s "left" (by decide +kernel) (af _))) (.cst (.i 0)) .nil)))))
def tH:Fn:=ix gds [.dat] 1 wH
def wV (K:Fg):Sp:=fi tH K
def nZ:XS :=
 (.seq (.fq 2 (.prm eR (.cons (.var 0) (.cons (.cst (.s "at" (by decide +kernel) (af _))) .nil))))
  (.seq (.ifs (.tst (.prm eqP (.cons (.prm eR (.cons (.var 0) (.cons (.cst (.s "left" (by decide +kernel) (af _))) .nil))) (.cons (.cst (.i 0)) .nil)))) (.seq (.sto qA 0 (.cst (.s "at" (by decide +kernel) (af _))) (.prm dW (.cons (.var 2) (.cons (.cst (.i 1)) .nil))))
  (.seq (.fq 3 (.cst (.i 1523)))
  (.seq (.ifs (.tst (.prm gtP (.cons (.prm fk (.cons (.prm eR (.cons (.var 0) (.cons (.cst (.s "script" (by decide +kernel) (af _))) .nil))) .nil)) (.cons (.cst (.i 0)) .nil)))) (.fq 3 (.prm ixP (.cons (.prm eR (.cons (.var 0) (.cons (.cst (.s "script" (by decide +kernel) (af _))) .nil))) (.cons (.prm kN (.cons (.var 2) (.cons (.prm fk (.cons (.prm eR (.cons (.var 0) (.cons (.cst (.s "script" (by decide +kernel) (af _))) .nil))) .nil)) .nil))) .nil)))) .skip)
  (.seq (.ifs (.or (.tst (.prm geP (.cons (.var 2) (.cons (.prm fk (.cons (.prm eR (.cons (.var 0) (.cons (.cst (.s "script" (by decide +kernel) (af _))) .nil))) .nil)) .nil)))) (.tst (.prm ltP (.cons (.prm yy (.cons (.var 3) .nil)) (.cons (.prm zN (.cons (.cst (.i 10)) (.cons (.cst (.i 18)) .nil))) .nil))))) (.seq (.fq 3 (.prm dW (.cons (.prm dW (.cons (.prm kN (.cons (.var 3) (.cons (.cst (.i 2147483489)) .nil))) (.cons (.prm n8 (.cons (.cst (.i 104395303)) (.cons (.var 2) .nil))) .nil))) (.cons (.cst (.i 709)) .nil))))
  (.seq (.fq 4 (.prm kN (.cons (.prm n8 (.cons (.var 3) (.cons (.cst (.i 69621)) .nil))) (.cons (.cst (.i 2147483647)) .nil))))
  (.seq (.fq 4 (.prm kN (.cons (.prm dW (.cons (.prm dW (.cons (.prm n8 (.cons (.var 4) (.cons (.var 4) .nil))) (.cons (.prm n8 (.cons (.cst (.i 3001)) (.cons (.var 4) .nil))) .nil))) (.cons (.prm n8 (.cons (.cst (.i 20480311)) (.cons (.var 2) .nil))) .nil))) (.cons (.cst (.i 2147483563)) .nil))))
  (.ret (.prm kN (.cons (.prm oE (.cons (.prm kN (.cons (.prm n8 (.cons (.var 4) (.cons (.cst (.i 40692)) .nil))) (.cons (.cst (.i 2147483587)) .nil))) (.cons (.cst (.i 23)) .nil))) (.cons (.var 1) .nil))))))) .skip)
  (.sto qA 0 (.cst (.s "left" (by decide +kernel) (af _))) (.prm yy (.cons (.var 3) .nil))))))) .skip)
  (.seq (.fq 5 (.prm kN (.cons (.prm eR (.cons (.var 0) (.cons (.cst (.s "left" (by decide +kernel) (af _))) .nil))) (.cons (.var 1) .nil))))
  (.seq (.sto qA 0 (.cst (.s "left" (by decide +kernel) (af _))) (.prm oE (.cons (.prm eR (.cons (.var 0) (.cons (.cst (.s "left" (by decide +kernel) (af _))) .nil))) (.cons (.var 1) .nil))))
  (.ret (.var 5))))))
def aQ:Fn:=ix gds [.ino,.dat] 6 nZ
def aW (K:Fg):Sp:=fi aQ K
def ou:XS :=
 (.seq (.fq 2 (.prm ixP (.cons (.lst (.cons (.cst (.s "" (by decide +kernel) (af _))) (.cons (.cst (.s "" (by decide +kernel) (af _))) (.cons (.cst (.s "" (by decide +kernel) (af _))) (.cons (.prm ixP (.cons (.lst (.cons (.cst (.s "any" (by decide +kernel) (af _))) (.cons (.cst (.s "keeps" (by decide +kernel) (af _))) (.cons (.cst (.s "least" (by decide +kernel) (af _))) (.cons (.cst (.s "is" (by decide +kernel) (af _))) (.cons (.cst (.s "all" (by decide +kernel) (af _))) (.cons (.cst (.s "many" (by decide +kernel) (af _))) .nil))))))) (.cons (.call aQ (.cons (.var 0) (.cons (.cst (.i 6)) .nil))) .nil))) .nil))))) (.cons (.call aQ (.cons (.var 0) (.cons (.cst (.i 4)) .nil))) .nil))))
  (.seq (.wh 100 (.tst (.prm ltP (.cons (.prm fk (.cons (.var 2) .nil)) (.cons (.var 1) .nil)))) (.fq 2 (.prm dW (.cons (.var 2) (.cons (.prm ixP (.cons (.cst (.s "abcdefghijklmnopqrstuvwxyz" (by decide +kernel) (af _))) (.cons (.call aQ (.cons (.var 0) (.cons (.cst (.i 26)) .nil))) .nil))) .nil)))))
  (.ret (.prm GS (.cons (.var 2) (.cons (.var 1) .nil))))))
def gL:Fn:=ix gds [.ino,.dat] 3 ou
def i5 (K:Fg):Sp:=fi gL K
def oB:XS :=
 (.seq (.fq 1 (.prm ixP (.cons (.lst (.cons (.prm EB (.cons (.call aQ (.cons (.var 0) (.cons (.cst (.i 9)) .nil))) (.cons (.cst (.i 4)) .nil))) (.cons (.tup (.cons (.call gL (.cons (.var 0) (.cons (.call aQ (.cons (.var 0) (.cons (.cst (.i 9)) .nil))) .nil))) .nil)) (.cons (.call gL (.cons (.var 0) (.cons (.cst (.i 3)) .nil))) .nil)))) (.cons (.call aQ (.cons (.var 0) (.cons (.cst (.i 3)) .nil))) .nil))))
  (.ret (.tup (.cons (.call gL (.cons (.var 0) (.cons (.prm dW (.cons (.cst (.i 1)) (.cons (.call aQ (.cons (.var 0) (.cons (.cst (.i 8)) .nil))) .nil))) .nil))) (.cons (.call gL (.cons (.var 0) (.cons (.prm dW (.cons (.cst (.i 1)) (.cons (.call aQ (.cons (.var 0) (.cons (.cst (.i 8)) .nil))) .nil))) .nil))) (.cons (.var 1) .nil))))))
def oN:Fn:=ix gds [.ino] 2 oB
def rL (K:Fg):Sp:=fi oN K
def dC:XS :=
 (.seq (.fq 1 (.cst (.s "abcdefghijklmnopqrstu" (by decide +kernel) (af _))))
  (.seq (.fq 2 (.call aQ (.cons (.var 0) (.cons (.cst (.i 420)) .nil))))
  (.seq (.fq 3 (.cmp [2] (.rng1 (.cons (.prm dW (.cons (.cst (.i 398)) (.cons (.call aQ (.cons (.var 0) (.cons (.cst (.i 5)) .nil))) .nil))) .nil)) .yes (.prm kN (.cons (.prm n8 (.cons (.cst (.i 11)) (.cons (.prm dW (.cons (.var 0) (.cons (.var 1) .nil))) .nil))) (.cons (.cst (.i 420)) .nil)))))
  (.ret (.cmp [1] (.lst (.var 3)) .yes (.tup (.cons (.prm dW (.cons (.cst (.s "a" (by decide +kernel) (af _))) (.cons (.prm ixP (.cons (.var 1) (.cons (.prm oE (.cons (.var 0) (.cons (.cst (.i 21)) .nil))) .nil))) .nil))) (.cons (.cst (.s "b" (by decide +kernel) (af _))) (.cons (.prm ixP (.cons (.var 1) (.cons (.prm kN (.cons (.var 0) (.cons (.cst (.i 21)) .nil))) .nil))) .nil)))))))))
def dJ:Fn:=ix gds [.ino] 4 dC
def gn (K:Fg):Sp:=fi dJ K
def ue:XS :=
 (.seq (.fq 1 (.prm ixP (.cons (.lst (.cons (.cst (.s "" (by decide +kernel) (af _))) (.cons (.cst (.s "abcdefghi" (by decide +kernel) (af _))) (.cons (.cst (.s "Ab" (by decide +kernel) (af _))) (.cons (.cst (.s "a b" (by decide +kernel) (af _))) (.cons (.cst (.s "a1" (by decide +kernel) (af _))) (.cons (.cst .n) (.cons (.cst (.i 5)) (.cons (.cst (.b true)) (.cons (.tup (.cons (.cst (.s "a" (by decide +kernel) (af _))) .nil)) (.cons (.lst (.cons (.cst (.s "a" (by decide +kernel) (af _))) .nil)) .nil))))))))))) (.cons (.call aQ (.cons (.var 0) (.cons (.cst (.i 10)) .nil))) .nil))))
  (.seq (.fq 2 (.prm ixP (.cons (.lst (.cons (.cst (.s "" (by decide +kernel) (af _))) (.cons (.cst (.s "abcdefghi" (by decide +kernel) (af _))) (.cons (.cst (.s "Ab" (by decide +kernel) (af _))) (.cons (.prm zN (.cons (.cst (.i 10)) (.cons (.cst (.i 30)) .nil))) (.cons (.prm HR (.cons (.prm zN (.cons (.cst (.i 10)) (.cons (.cst (.i 30)) .nil))) .nil)) (.cons (.cst (.b true)) (.cons (.cst .n) (.cons (.tup (.cons (.cst (.s "A" (by decide +kernel) (af _))) .nil)) (.cons (.tup (.cons (.cst (.s "a" (by decide +kernel) (af _))) (.cons (.cst (.s "b" (by decide +kernel) (af _))) .nil))) (.cons (.lst (.cons (.cst (.s "a" (by decide +kernel) (af _))) .nil)) (.cons (.tup .nil) .nil)))))))))))) (.cons (.call aQ (.cons (.var 0) (.cons (.cst (.i 11)) .nil))) .nil))))
  (.seq (.fq 3 (.lst (.cons (.tup (.cons (.var 1) (.cons (.cst (.s "b" (by decide +kernel) (af _))) (.cons (.cst (.i 1)) .nil)))) (.cons (.tup (.cons (.cst (.s "a" (by decide +kernel) (af _))) (.cons (.var 1) (.cons (.cst (.i 1)) .nil)))) (.cons (.tup (.cons (.cst (.s "a" (by decide +kernel) (af _))) (.cons (.cst (.s "b" (by decide +kernel) (af _))) (.cons (.var 2) .nil)))) (.cons (.tup (.cons (.cst (.s "a" (by decide +kernel) (af _))) (.cons (.cst (.s "b" (by decide +kernel) (af _))) .nil))) (.cons (.tup (.cons (.cst (.s "a" (by decide +kernel) (af _))) (.cons (.cst (.s "b" (by decide +kernel) (af _))) (.cons (.cst (.i 1)) (.cons (.cst (.i 1)) .nil))))) (.cons (.lst (.cons (.cst (.s "a" (by decide +kernel) (af _))) (.cons (.cst (.s "b" (by decide +kernel) (af _))) (.cons (.cst (.i 1)) .nil)))) (.cons (.tup .nil) (.cons (.cst .n) .nil))))))))))
  (.seq (.fq 3 (.prm dW (.cons (.var 3) (.cons (.lst (.cons (.cst (.i 7)) (.cons (.cst (.s "a b 1" (by decide +kernel) (af _))) (.cons (.prm yC .nil) (.cons (.tup (.cons (.cst (.s "a" (by decide +kernel) (af _))) (.cons (.tup (.cons (.cst (.s "b" (by decide +kernel) (af _))) .nil)) (.cons (.cst (.i 1)) .nil)))) (.cons (.tup (.cons (.tup (.cons (.cst (.s "a" (by decide +kernel) (af _))) (.cons (.cst (.s "b" (by decide +kernel) (af _))) (.cons (.cst (.i 1)) .nil)))) .nil)) (.cons (.lst (.cons (.tup (.cons (.cst (.s "a" (by decide +kernel) (af _))) (.cons (.cst (.s "b" (by decide +kernel) (af _))) (.cons (.cst (.i 1)) .nil)))) .nil)) (.cons (.cst (.b false)) .nil)))))))) .nil))))
  (.ret (.prm ixP (.cons (.var 3) (.cons (.call aQ (.cons (.var 0) (.cons (.prm fk (.cons (.var 3) .nil)) .nil))) .nil))))))))
def tY:Fn:=ix gds [.ino] 4 ue
def wU (K:Fg):Sp:=fi tY K
def i7:XS :=
 (.seq (.fq 2 (.call aQ (.cons (.var 0) (.cons (.cst (.i 4)) .nil))))
  (.seq (.ifs (.tst (.prm eqP (.cons (.var 2) (.cons (.cst (.i 0)) .nil)))) (.seq (.fq 3 (.lst (.cons (.cst .n) (.cons (.cst (.i 5)) (.cons (.cst (.s "a b 1" (by decide +kernel) (af _))) (.cons (.prm yC .nil) (.cons (.cst (.b true)) (.cons (.lst (.cons (.var 1) .nil)) (.cons (.lst (.cons (.var 1) (.cons (.var 1) .nil))) (.cons (.tup (.cons (.prm yZ (.cons (.var 1) .nil)) .nil)) .nil))))))))))
  (.ret (.prm ixP (.cons (.var 3) (.cons (.call aQ (.cons (.var 0) (.cons (.cst (.i 8)) .nil))) .nil))))) .skip)
  (.seq (.fq 4 (.call aQ (.cons (.var 0) (.cons (.prm dW (.cons (.prm fk (.cons (.var 1) .nil)) (.cons (.cst (.i 1)) .nil))) .nil))))
  (.seq (.fq 3 (.prm dW (.cons (.prm dW (.cons (.prm GS (.cons (.var 1) (.cons (.var 4) .nil))) (.cons (.lst (.cons (.call tY (.cons (.var 0) .nil)) .nil)) .nil))) (.cons (.prm Hq (.cons (.var 1) (.cons (.prm dW (.cons (.var 4) (.cons (.call aQ (.cons (.var 0) (.cons (.cst (.i 2)) .nil))) .nil))) .nil))) .nil))))
  (.ret (.prm ixP (.cons (.lst (.cons (.var 3) (.cons (.prm jm (.cons (.var 3) .nil)) .nil))) (.cons (.call aQ (.cons (.var 0) (.cons (.cst (.i 2)) .nil))) .nil))))))))
def jb:Fn:=ix gds [.ino,.dat] 5 i7
def mU (K:Fg):Sp:=fi jb K
def gF:XS :=
 (.ret (.prm Ee (.cons (.call bg (.cons (.var 0) .nil)) .nil)))
def de:Fn:=ix gds [.dat] 3 gF
def fc (K:Fg):Sp:=fi de K
def uE:XS :=
 (.seq (.x8 1 (.call tH (.cons (.var 0) .nil)))
  (.seq (.fq 2 (.cmp [1] (.rng1 (.cons (.call aQ (.cons (.var 1) (.cons (.cst (.i 13)) .nil))) .nil)) .yes (.call oN (.cons (.var 1) .nil))))
  (.seq (.ifs (.tst (.prm eqP (.cons (.call aQ (.cons (.var 1) (.cons (.cst (.i 4)) .nil))) (.cons (.cst (.i 0)) .nil)))) (.seq (.fq 3 (.call dJ (.cons (.var 1) .nil)))
  (.seq (.fq 4 (.prm dW (.cons (.var 3) (.cons (.cmp [3,1] (.rng1 (.cons (.call aQ (.cons (.var 1) (.cons (.cst (.i 4)) .nil))) .nil)) .yes (.prm ixP (.cons (.var 1) (.cons (.call aQ (.cons (.var 2) (.cons (.prm fk (.cons (.var 1) .nil)) .nil))) .nil)))) .nil))))
  (.ifs (.tst (.prm gtP (.cons (.prm fk (.cons (.var 3) .nil)) (.cons (.cst (.i 400)) .nil)))) (.ifs (.or (.not (.tst (.call de (.cons (.var 4) .nil)))) (.not (.tst (.call de (.cons (.prm jm (.cons (.var 4) .nil)) .nil))))) (.ret (.cst (.b false))) .skip) (.ifs (.tst (.prm neP (.cons (.prm fk (.cons (.prm nnP (.cons (.call bg (.cons (.var 4) .nil)) .nil)) .nil)) (.cons (.prm fk (.cons (.var 3) .nil)) .nil)))) (.ret (.cst (.b false))) .skip)))) .skip)
  (.seq (.fq 5 (.prm nnP (.cons (.call bg (.cons (.var 2) .nil)) .nil)))
  (.seq (.fr 6 (.rng1 (.cons (.cst (.i 8)) .nil)) (.seq (.ifs (.not (.tst (.call de (.cons (.call jb (.cons (.var 1) (.cons (.var 2) .nil))) .nil)))) (.ret (.cst (.b false))) .skip)
  (.ifs (.tst (.prm neP (.cons (.prm nnP (.cons (.call bg (.cons (.var 2) .nil)) .nil)) (.cons (.var 5) .nil)))) (.ret (.cst (.b false))) .skip)))
  (.ret (.cst (.b true))))))))
def xP:Fn:=ix gds [.dat] 7 uE
def rC (K:Fg):Sp:=fi xP K
abbrev bQ (P:Program) (w:World) (K:Fg) (mg:Str->Option Value) (base:Heap) (t:Adr):=dN P w K mg base CX0 1 t.bP t.dt ["thing", "fewest"] (cQ K)
abbrev dZ (P:Program) (w:World) (K:Fg) (mg:Str->Option Value) (base:Heap) (t:Adr):=dN P w K mg base CX0 2 t.d8 t.jP ["thing"] (fe K)
abbrev ip (P:Program) (w:World) (K:Fg) (mg:Str->Option Value) (base:Heap) (t:Adr):=dN P w K mg base CX0 1 t.dh t.gI ["thing"] (jh K)
abbrev fE (P:Program) (w:World) (K:Fg) (mg:Str->Option Value) (base:Heap) (t:Adr):=dN P w K mg base CX0 2 t.cC t.fH ["thing"] (iC K)
abbrev jc (P:Program) (w:World) (K:Fg) (mg:Str->Option Value) (base:Heap) (t:Adr):=dN P w K mg base CX0 2 t.eD t.jL ["thing"] (kE K)
abbrev jq (P:Program) (w:World) (K:Fg) (mg:Str->Option Value) (base:Heap) (t:Adr):=dN P w K mg base CX0 3 t.eH t.jG ["thing"] (ki K)
abbrev ji (P:Program) (w:World) (K:Fg) (mg:Str->Option Value) (base:Heap) (t:Adr):=dN P w K mg base CX0 1 t.eh t.jM ["node"] (ka K)
abbrev ij (P:Program) (w:World) (K:Fg) (mg:Str->Option Value) (base:Heap) (t:Adr):=dN P w K mg base CX0 2 t.cY t.gP ["node"] (jH K)
abbrev jA (P:Program) (w:World) (K:Fg) (mg:Str->Option Value) (base:Heap) (t:Adr):=dN P w K mg base CX0 4 t.eO t.ja ["thing"] (kj K)
abbrev gR (P:Program) (w:World) (K:Fg) (mg:Str->Option Value) (base:Heap) (t:Adr):=dN P w K mg base CX0 3 t.cU t.gW ["fact"] (nU K)
abbrev cm (P:Program) (w:World) (K:Fg) (mg:Str->Option Value) (base:Heap) (t:Adr):=dN P w K mg base CX0 6 t.bo t.cg ["facts"] (dg K)
abbrev fD (P:Program) (w:World) (K:Fg) (mg:Str->Option Value) (base:Heap) (t:Adr):=dN P w K mg base CX0 5 t.cE t.fx ["things"] (iu K)
abbrev fU (P:Program) (w:World) (K:Fg) (mg:Str->Option Value) (base:Heap) (t:Adr):=dN P w K mg base (CX1 P w) 7 t.fR t.lH ["facts"] (spR bg t.bI K)
abbrev yM (P:Program) (w:World) (K:Fg) (mg:Str->Option Value) (base:Heap) (t:Adr):=dN P w K mg base CX0 1 t.tU t.zE ["_law_script"] (wV K)
abbrev cW (P:Program) (w:World) (K:Fg) (mg:Str->Option Value) (base:Heap) (t:Adr):=dN P w K mg base CX0 1 t.lY t.tZ ["_law_pen_here", "_law_most"] (aW K)
abbrev sW (P:Program) (w:World) (K:Fg) (mg:Str->Option Value) (base:Heap) (t:Adr):=dN P w K mg base CX0 2 t.mR t.uW ["_law_pen_here", "_law_many"] (i5 K)
abbrev uh (P:Program) (w:World) (K:Fg) (mg:Str->Option Value) (base:Heap) (t:Adr):=dN P w K mg base CX0 3 t.mH t.tL ["_law_pen_here"] (rL K)
abbrev d6 (P:Program) (w:World) (K:Fg) (mg:Str->Option Value) (base:Heap) (t:Adr):=dN P w K mg base CX0 2 t.cf t.eM ["_law_pen_here"] (gn K)
abbrev zf (P:Program) (w:World) (K:Fg) (mg:Str->Option Value) (base:Heap) (t:Adr):=dN P w K mg base CX0 2 t.t9 t.y4 ["_law_pen_here"] (wU K)
abbrev lA (P:Program) (w:World) (K:Fg) (mg:Str->Option Value) (base:Heap) (t:Adr):=dN P w K mg base CX0 3 t.gp t.lr ["_law_pen_here", "_law_facts"] (mU K)
abbrev jk (P:Program) (w:World) (K:Fg) (mg:Str->Option Value) (base:Heap) (t:Adr):=dN P w K mg base CX0 8 t.eo t.jx ["_law_thing"] (fc K)
abbrev D0 (P:Program) (w:World) (K:Fg) (mg:Str->Option Value) (base:Heap) (t:Adr):=dN P w K mg base CX0 9 t.md t.nY ["_law_script"] (rC K)
section
variable {P:Program} {w:World} {K:Fg} {mg:Str->Option Value} {base:Heap} {t:Adr} {n:Nat} {cdv:Value} {A:Around} {outer:List Env} {s:Shared} {H:Hp} {E:XK}
def cR (K:Fg) (t:Adr):TS :=
 (b8 (iO (tOr (pe (tB (tCB ((nq "str").r K) (ae (ao 0) aq)))) (pe (dG (iX (fun x y=>leP.r K [x,y]) (fun x y=>leP.r K [x,y]) (ao 1) (tCB (fk.r K) (ae (ao 0) aq)) (tC (.int 8)))))) (cH (tC (.bl false))) cA)
  (cH (tCB (zU.r K) (ae (jR [] (DA (ao 0)) wj (iX (fun x y=>leP.r K [x,y]) (fun x y=>leP.r K [x,y]) (tC (.str "a")) (ao 0) (tC (.str "z")))) aq))))
theorem jS (T:Txt K mg t) (hr:cj 0 (A.deeper (envOfC "are_letters" (aa aj) s.heap.objs.size t.bP cdv))):JSs (fh CX0 P w K mg base ["thing", "fewest"] "are_letters" (aa aj) t.bP cdv A outer s H E).nox (ag aj) (cR K t):=by
 unfold cR;refine cF ?_ ?_
 ·refine lJ ?_ ?_ ?_
  ·exact (eW (yX (i0 (qV (x6 rfl T.z_isinstance (ar 0 rfl (Or.inl rfl) rfl rfl) rfl (vg (v:=.ty "str") rfl T.z_str (by decide +kernel) rfl (by decide) rfl)) (fun _=>rfl))) (nT (i0 (yF lT lT (ar 1 rfl (Or.inl rfl) rfl rfl) (eB bR rfl T.z_len (by decide +kernel) (eA (ar 0 rfl (Or.inl rfl) rfl rfl) aB rfl) rfl rfl (by decide) rfl) (jY (v:=.int 8) rfl T.g_MOST_LETTERS ⟨_,rfl⟩ rfl) (by with_unfolding_all rfl))))))
  ·refine cM ?_;exact (eZ eBl)
  ·exact me
 ·refine cM ?_;exact (eZ (eB (tM rfl) rfl T.z_all (by decide +kernel) (eA (vV [] (eIS (ar 0 rfl (Or.inl rfl) rfl rfl)) eT0 (eC fun _ _ _ _=>(CQ lT lT bA (ar 0 rfl (Or.inl rfl) rfl rfl) bA (by with_unfolding_all rfl))) rfl (bsc (sc:=aa aj) rfl (by decide +kernel)) (by decide +kernel) trivial (fun _=>rfl)) aB rfl) rfl rfl (by decide) rfl))
theorem j5 (T:Txt K mg t):bQ P w K mg base t :=
 T.dH.okJ jZ (fun vs H Q E h=>aH h) (fun cdv A outer s H vs Q E hr h=>⟨_,jS T hr,by rw [show cR K t=rS K (gav t) cS from rfl];exact aX (N:=["thing", "fewest"]) (cG T) h (by decide)⟩)
def gE (K:Fg) (t:Adr):TS :=
 (cH (aG (cQ K) [] E0 (ae (ao 0) (ae (tC (.int 1)) aq))))
theorem nN (T:Txt K mg t) (G_are_letters:bQ P w K mg base t) (hr:cj 1 (A.deeper (envOfC "is_name" (aa aJ) s.heap.objs.size t.d8 cdv))):JSs (fh CX0 P w K mg base ["thing"] "is_name" (aa aJ) t.d8 cdv A outer s H E).nox (ag aJ) (gE K t):=by
 unfold gE;refine cM ?_;exact (eZ (aU G_are_letters (hr.mono (by omega)) rfl T.gf T.dH.kp T.gc .nil aR (eA (ar 0 rfl (Or.inl rfl) rfl rfl) (eA bb aB rfl) rfl) rfl rfl rfl))
theorem qy (T:Txt K mg t) (G_are_letters:bQ P w K mg base t):dZ P w K mg base t :=
 T.gw.okJ qL (fun vs H Q E h=>aH h) (fun cdv A outer s H vs Q E hr h=>⟨_,nN T G_are_letters hr,by rw [show gE K t=rS K (gav t) gM from rfl];exact aX (N:=["thing"]) (cG T) h (by decide)⟩)
def fB (K:Fg) (t:Adr):TS :=
 (cH (kI (tCB ((nq "int").r K) (ae (ao 0) aq)) (sy (tCB ((nq "bool").r K) (ae (ao 0) aq)))))
theorem mz (T:Txt K mg t) (hr:cj 0 (A.deeper (envOfC "is_whole" (aa aC) s.heap.objs.size t.dh cdv))):JSs (fh CX0 P w K mg base ["thing"] "is_whole" (aa aC) t.dh cdv A outer s H E).nox (ag aC) (fB K t):=by
 unfold fB;refine cM ?_;exact (eZ (zY (x6 rfl T.z_isinstance (ar 0 rfl (Or.inl rfl) rfl rfl) rfl (vg (v:=.ty "int") rfl T.z_int (by decide +kernel) rfl (by decide) rfl)) (AN (GK (x6 rfl T.z_isinstance (ar 0 rfl (Or.inl rfl) rfl rfl) rfl (vg (v:=.ty "bool") rfl T.z_bool (by decide +kernel) rfl (by decide) rfl))))))
theorem oo (T:Txt K mg t):ip P w K mg base t :=
 T.j7.okJ om (fun vs H Q E h=>aH h) (fun cdv A outer s H vs Q E hr h=>⟨_,mz T hr,by rw [show fB K t=rS K (gav t) fy from rfl];exact aX (N:=["thing"]) (cG T) h (by decide)⟩)
def dY (K:Fg) (t:Adr):TS :=
 (cH (kI (aG (jh K) [] E0 (ae (ao 0) aq)) (tOp (fun x y=>leP.r K [x,y]) (tCB (yy.r K) (ae (ao 0) aq)) (tC (.int 999999999999999999999999999999)))))
theorem ll (T:Txt K mg t) (G_is_whole:ip P w K mg base t) (hr:cj 1 (A.deeper (envOfC "is_number" (aa ay) s.heap.objs.size t.cC cdv))):JSs (fh CX0 P w K mg base ["thing"] "is_number" (aa ay) t.cC cdv A outer s H E).nox (ag ay) (dY K t):=by
 unfold dY;refine cM ?_;exact (eZ (zY (aU G_is_whole (hr.mono (by omega)) rfl T.qq T.j7.kp T.qC .nil aR (eA (ar 0 rfl (Or.inl rfl) rfl rfl) aB rfl) rfl rfl rfl) (AN (GC lT (eB nQ rfl T.z_abs (by decide +kernel) (eA (ar 0 rfl (Or.inl rfl) rfl rfl) aB rfl) rfl rfl (by decide) rfl) (jY (v:=.int 999999999999999999999999999999) rfl T.g_GREATEST_NUMBER ⟨_,rfl⟩ rfl) (cp _)))))
theorem nc (T:Txt K mg t) (G_is_whole:ip P w K mg base t):fE P w K mg base t :=
 T.jO.okJ lQ (fun vs H Q E h=>aH h) (fun cdv A outer s H vs Q E hr h=>⟨_,ll T G_is_whole hr,by rw [show dY K t=rS K (gav t) d7 from rfl];exact aX (N:=["thing"]) (cG T) h (by decide)⟩)
def hG (K:Fg) (t:Adr):TS :=
 (cH (kI (tCB ((nq "tuple").r K) (ae (ao 0) aq)) (kI (tOp (fun x y=>eqP.r K [x,y]) (tCB (fk.r K) (ae (ao 0) aq)) (tC (.int 1))) (aG (cQ K) [] E0 (ae (tOp (fun x y=>ixP.r K [x,y]) (ao 0) (tC (.int 0))) (ae (tC (.int 0)) aq))))))
theorem oz (T:Txt K mg t) (G_are_letters:bQ P w K mg base t) (hr:cj 1 (A.deeper (envOfC "is_said" (aa aO) s.heap.objs.size t.eD cdv))):JSs (fh CX0 P w K mg base ["thing"] "is_said" (aa aO) t.eD cdv A outer s H E).nox (ag aO) (hG K t):=by
 unfold hG;refine cM ?_;exact (eZ (zY (x6 rfl T.z_isinstance (ar 0 rfl (Or.inl rfl) rfl rfl) rfl (vg (v:=.ty "tuple") rfl T.z_tuple (by decide +kernel) rfl (by decide) rfl)) (zY (GC (kB hr.units) (eB bR rfl T.z_len (by decide +kernel) (eA (ar 0 rfl (Or.inl rfl) rfl rfl) aB rfl) rfl rfl (by decide) rfl) bb (cp _)) (AN (aU G_are_letters (hr.mono (by omega)) rfl T.gf T.dH.kp T.gc .nil aR (eA (eIx bJ (ar 0 rfl (Or.inl rfl) rfl rfl) bb (fun _ _=>rfl)) (eA bb aB rfl) rfl) rfl rfl rfl)))))
theorem qx (T:Txt K mg t) (G_are_letters:bQ P w K mg base t):jc P w K mg base t :=
 T.mW.okJ qJ (fun vs H Q E h=>aH h) (fun cdv A outer s H vs Q E hr h=>⟨_,oz T G_are_letters hr,by rw [show hG K t=rS K (gav t) g7 from rfl];exact aX (N:=["thing"]) (cG T) h (by decide)⟩)
def gT (K:Fg) (t:Adr):TS :=
 (cH (Ag (aG (fe K) [] E0 (ae (ao 0) aq)) (Ag (aG (iC K) [] E0 (ae (ao 0) aq)) (aG (kE K) [] E0 (ae (ao 0) aq)))))
theorem oM (T:Txt K mg t) (G_is_name:dZ P w K mg base t) (G_is_number:fE P w K mg base t) (G_is_said:jc P w K mg base t) (hr:cj 2 (A.deeper (envOfC "is_node" (aa aP) s.heap.objs.size t.eH cdv))):JSs (fh CX0 P w K mg base ["thing"] "is_node" (aa aP) t.eH cdv A outer s H E).nox (ag aP) (gT K t):=by
 unfold gT;refine cM ?_;exact (eZ (eOr (aU G_is_name (hr.mono (by omega)) rfl T.jC T.gw.kp T.ju .nil aR (eA (ar 0 rfl (Or.inl rfl) rfl rfl) aB rfl) rfl rfl rfl) (eOr (aU G_is_number (hr.mono (by omega)) rfl T.oh T.jO.kp T.og .nil aR (eA (ar 0 rfl (Or.inl rfl) rfl rfl) aB rfl) rfl rfl rfl) (AN (aU G_is_said (hr.mono (by omega)) rfl T.sg T.mW.kp T.sV .nil aR (eA (ar 0 rfl (Or.inl rfl) rfl rfl) aB rfl) rfl rfl rfl)))))
theorem qu (T:Txt K mg t) (G_is_name:dZ P w K mg base t) (G_is_number:fE P w K mg base t) (G_is_said:jc P w K mg base t):jq P w K mg base t :=
 T.lV.okJ qD (fun vs H Q E h=>aH h) (fun cdv A outer s H vs Q E hr h=>⟨_,oM T G_is_name G_is_number G_is_said hr,by rw [show gT K t=rS K (gav t) gH from rfl];exact aX (N:=["thing"]) (cG T) h (by decide)⟩)
def g6 (K:Fg) (t:Adr):TS :=
 (b8 (iO (tB (tCB ((nq "str").r K) (ae (ao 0) aq))) (cH (tC (.str "thing"))) cA)
  (b8 (iO (tB (tCB ((nq "tuple").r K) (ae (ao 0) aq))) (cH (tC (.str "said"))) cA)
  (cH (tC (.str "number")))))
theorem nP (T:Txt K mg t) (hr:cj 0 (A.deeper (envOfC "kind_of" (aa aL) s.heap.objs.size t.eh cdv))):JSs (fh CX0 P w K mg base ["node"] "kind_of" (aa aL) t.eh cdv A outer s H E).nox (ag aL) (g6 K t):=by
 unfold g6;refine cF ?_ ?_
 ·refine lJ ?_ ?_ ?_
  ·exact (qV (x6 rfl T.z_isinstance (ar 0 rfl (Or.inl rfl) rfl rfl) rfl (vg (v:=.ty "str") rfl T.z_str (by decide +kernel) rfl (by decide) rfl)) (fun _=>rfl))
  ·refine cM ?_;exact (eZ bA)
  ·exact me
 ·refine cF ?_ ?_
  ·refine lJ ?_ ?_ ?_
   ·exact (qV (x6 rfl T.z_isinstance (ar 0 rfl (Or.inl rfl) rfl rfl) rfl (vg (v:=.ty "tuple") rfl T.z_tuple (by decide +kernel) rfl (by decide) rfl)) (fun _=>rfl))
   ·refine cM ?_;exact (eZ bA)
   ·exact me
  ·refine cM ?_;exact (eZ bA)
theorem qF (T:Txt K mg t):ji P w K mg base t :=
 T.ng.okJ qa (fun vs H Q E h=>aH h) (fun cdv A outer s H vs Q E hr h=>⟨_,nP T hr,by rw [show g6 K t=rS K (gav t) gX from rfl];exact aX (N:=["node"]) (cG T) h (by decide)⟩)
def fM (K:Fg) (t:Adr):TS :=
 (b8 (dB (aG (ka K) [] E0 (ae (ao 0) aq)) (aZ 1))
  (b8 (iO (dG (tOp (fun x y=>eqP.r K [x,y]) (ao 1) (tC (.str "number")))) (cH (gz (ae (tC (.int 0)) (ae (ao 0) (ae (tC (.str "")) aq))))) cA)
  (b8 (iO (dG (tOp (fun x y=>eqP.r K [x,y]) (ao 1) (tC (.str "said")))) (cH (gz (ae (tC (.int 1)) (ae (tC (.int 0)) (ae (tOp (fun x y=>ixP.r K [x,y]) (ao 0) (tC (.int 0))) aq))))) cA)
  (cH (gz (ae (tC (.int 2)) (ae (tC (.int 0)) (ae (ao 0) aq))))))))
theorem m6 (T:Txt K mg t) (G_kind_of:ji P w K mg base t) (hr:cj 1 (A.deeper (envOfC "node_key" (aa aD) s.heap.objs.size t.cY cdv))):JSs (fh CX0 P w K mg base ["node", "kind"] "node_key" (aa aD) t.cY cdv A outer s H E).nox (ag aD) (fM K t):=by
 unfold fM;refine cF ?_ ?_
 ·refine gC (i:=1) ?_ jf.nd rfl (Or.inl rfl) rfl (Or.inl rfl);exact (aU G_kind_of (hr.mono (by omega)) rfl T.uG T.ng.kp T.rg .nil aR (eA (ar 0 rfl (Or.inl rfl) rfl rfl) aB rfl) rfl rfl rfl)
 ·refine cF ?_ ?_
  ·refine lJ ?_ ?_ ?_
   ·exact (fS (kB hr.units) (ar 1 rfl (Or.inl rfl) rfl rfl) bA (cp _))
   ·refine cM ?_;exact (eZ (iE (eA bb (eA (ar 0 rfl (Or.inl rfl) rfl rfl) (eA bA aB rfl) rfl) rfl)))
   ·exact me
  ·refine cF ?_ ?_
   ·refine lJ ?_ ?_ ?_
    ·exact (fS (kB hr.units) (ar 1 rfl (Or.inl rfl) rfl rfl) bA (cp _))
    ·refine cM ?_;exact (eZ (iE (eA bb (eA bb (eA (eIx bJ (ar 0 rfl (Or.inl rfl) rfl rfl) bb (fun _ _=>rfl)) aB rfl) rfl) rfl)))
    ·exact me
   ·refine cM ?_;exact (eZ (iE (eA bb (eA bb (eA (ar 0 rfl (Or.inl rfl) rfl rfl) aB rfl) rfl) rfl)))
theorem nO (T:Txt K mg t) (G_kind_of:ji P w K mg base t):ij P w K mg base t :=
 T.kF.okJ jf (fun vs H Q E h=>aH h) (fun cdv A outer s H vs Q E hr h=>⟨_,m6 T G_kind_of hr,by rw [show fM K t=rS K (gav t) fz from rfl];exact aX (N:=["node", "kind"]) (cG T) h (by decide)⟩)
def g5 (K:Fg) (t:Adr):TS :=
 (b8 (iO (tOr (pe (tB (tCB ((nq "tuple").r K) (ae (ao 0) aq)))) (dG (tOp (fun x y=>neP.r K [x,y]) (tCB (fk.r K) (ae (ao 0) aq)) (tC (.int 3))))) (cH (tC (.bl false))) cA)
  (cH (kI (aG (fe K) [] E0 (ae (tOp (fun x y=>ixP.r K [x,y]) (ao 0) (tC (.int 0))) aq)) (kI (aG (fe K) [] E0 (ae (tOp (fun x y=>ixP.r K [x,y]) (ao 0) (tC (.int 1))) aq)) (aG (ki K) [] E0 (ae (tOp (fun x y=>ixP.r K [x,y]) (ao 0) (tC (.int 2))) aq))))))
theorem nv (T:Txt K mg t) (G_is_name:dZ P w K mg base t) (G_is_node:jq P w K mg base t) (hr:cj 3 (A.deeper (envOfC "is_fact" (aa aN) s.heap.objs.size t.eO cdv))):JSs (fh CX0 P w K mg base ["thing"] "is_fact" (aa aN) t.eO cdv A outer s H E).nox (ag aN) (g5 K t):=by
 unfold g5;refine cF ?_ ?_
 ·refine lJ ?_ ?_ ?_
  ·exact (eW (yX (i0 (qV (x6 rfl T.z_isinstance (ar 0 rfl (Or.inl rfl) rfl rfl) rfl (vg (v:=.ty "tuple") rfl T.z_tuple (by decide +kernel) rfl (by decide) rfl)) (fun _=>rfl))) (nT (fS (tQ hr.units) (eB bR rfl T.z_len (by decide +kernel) (eA (ar 0 rfl (Or.inl rfl) rfl rfl) aB rfl) rfl rfl (by decide) rfl) bb (cp _)))))
  ·refine cM ?_;exact (eZ eBl)
  ·exact me
 ·refine cM ?_;exact (eZ (zY (aU G_is_name (hr.mono (by omega)) rfl T.jC T.gw.kp T.ju .nil aR (eA (eIx bJ (ar 0 rfl (Or.inl rfl) rfl rfl) bb (fun _ _=>rfl)) aB rfl) rfl rfl rfl) (zY (aU G_is_name (hr.mono (by omega)) rfl T.jC T.gw.kp T.ju .nil aR (eA (eIx bJ (ar 0 rfl (Or.inl rfl) rfl rfl) bb (fun _ _=>rfl)) aB rfl) rfl rfl rfl) (AN (aU G_is_node (hr.mono (by omega)) rfl T.rG T.lV.kp T.sL .nil aR (eA (eIx bJ (ar 0 rfl (Or.inl rfl) rfl rfl) bb (fun _ _=>rfl)) aB rfl) rfl rfl rfl)))))
theorem qo (T:Txt K mg t) (G_is_name:dZ P w K mg base t) (G_is_node:jq P w K mg base t):jA P w K mg base t :=
 T.mG.okJ qj (fun vs H Q E h=>aH h) (fun cdv A outer s H vs Q E hr h=>⟨_,nv T G_is_name G_is_node hr,by rw [show g5 K t=rS K (gav t) gO from rfl];exact aX (N:=["thing"]) (cG T) h (by decide)⟩)
def fG (K:Fg) (t:Adr):TS :=
 (cH (gz (ae (tOp (fun x y=>ixP.r K [x,y]) (ao 0) (tC (.int 0))) (ae (tOp (fun x y=>ixP.r K [x,y]) (ao 0) (tC (.int 1))) (ae (aG (jH K) [] E0 (ae (tOp (fun x y=>ixP.r K [x,y]) (ao 0) (tC (.int 2))) aq)) aq)))))
theorem mL (T:Txt K mg t) (G_node_key:ij P w K mg base t) (hr:cj 2 (A.deeper (envOfC "fact_key" (aa aE) s.heap.objs.size t.cU cdv))):JSs (fh CX0 P w K mg base ["fact"] "fact_key" (aa aE) t.cU cdv A outer s H E).nox (ag aE) (fG K t):=by
 unfold fG;refine cM ?_;exact (eZ (iE (eA (eIx bJ (ar 0 rfl (Or.inl rfl) rfl rfl) bb (fun _ _=>rfl)) (eA (eIx bJ (ar 0 rfl (Or.inl rfl) rfl rfl) bb (fun _ _=>rfl)) (eA (aU G_node_key (hr.mono (by omega)) rfl T.qg T.kF.kp T.qS .nil aR (eA (eIx bJ (ar 0 rfl (Or.inl rfl) rfl rfl) bb (fun _ _=>rfl)) aB rfl) rfl rfl rfl) aB rfl) rfl) rfl)))
theorem nG (T:Txt K mg t) (G_node_key:ij P w K mg base t):gR P w K mg base t :=
 T.qr.okJ ot (fun vs H Q E h=>aH h) (fun cdv A outer s H vs Q E hr h=>⟨_,mL T G_node_key hr,by rw [show fG K t=rS K (gav t) fu from rfl];exact aX (N:=["fact"]) (cG T) h (by decide)⟩)
def bV (K:Fg) (t:Adr):TS :=
 (b8 (dB lN (aZ 1))
  (b8 (zW (Dy K (ao 0)) (aZ 2) (sH K (ao 1) (ao 2) (tC (.bl true))))
  (cH (tCB ((Sg.mX fyS bU rfl).r K) (ae (ao 1) aq)))))
theorem gi (T:Txt K mg t) (G_fact_key:gR P w K mg base t) (hr:cj 5 (A.deeper (envOfC "facts_in_order" (aa ah) s.heap.objs.size t.bo cdv))):JSs (fh CX0 P w K mg base ["facts", "once", "fact"] "facts_in_order" (aa ah) t.bo cdv A outer s H E).nox (ag ah) (bV K t):=by
 unfold bV;refine cF ?_ ?_
 ·refine gC (i:=1) ?_ bZ.nd rfl (Or.inl rfl) rfl (Or.inl rfl);exact xV
 ·refine cF ?_ ?_
  ·refine GB ?_ (eGN (i:=2) bZ.nd rfl (Or.inl rfl) (Or.inl rfl)) ?_ PassesOwn.never rfl (fun _=>rfl)
   ·exact (GY (ar 0 rfl (Or.inl rfl) rfl rfl))
   ·refine cM ?_;exact (vL hr.units (ar 1 rfl (Or.inl rfl) rfl rfl) (ar 2 rfl (Or.inl rfl) rfl rfl) eBl rfl)
  ·refine cM ?_;exact (eZ (Sg.CA fyS rfl G_fact_key (hr.mono (by omega)) T.qw rfl T.z_sorted (by decide +kernel) rfl T.qI rfl (eA (ar 1 rfl (Or.inl rfl) rfl rfl) aB rfl) rfl))
theorem gU (T:Txt K mg t) (G_fact_key:gR P w K mg base t):cm P w K mg base t :=
 T.dO.okJ bZ (fun vs H Q E h=>aH h) (fun cdv A outer s H vs Q E hr h=>⟨_,gi T G_fact_key hr,by rw [show bV K t=rS K (gav t) bC from rfl];exact aX (N:=["facts", "once", "fact"]) (cG T) h (by decide)⟩)
def ee (K:Fg) (t:Adr):TS :=
 (cH (tCB (zU.r K) (ae (jR [] (Dy K (ao 0)) wj (aG (kj K) [] E0 (ae (ao 0) aq))) aq)))
theorem kT (T:Txt K mg t) (G_is_fact:jA P w K mg base t) (hr:cj 4 (A.deeper (envOfC "are_facts" (aa au) s.heap.objs.size t.cE cdv))):JSs (fh CX0 P w K mg base ["things"] "are_facts" (aa au) t.cE cdv A outer s H E).nox (ag au) (ee K t):=by
 unfold ee;refine cM ?_;exact (eZ (eB (tM rfl) rfl T.z_all (by decide +kernel) (eA (vV [] (GY (ar 0 rfl (Or.inl rfl) rfl rfl)) eT0 (eC fun _ _ _ _=>(aU G_is_fact (hr.mono (by omega)) rfl T.sR T.mG.kp T.tD .nil aR (eA (ar 0 rfl (Or.inl rfl) rfl rfl) aB rfl) rfl rfl rfl)) rfl (bsc (sc:=aa au) rfl (by decide +kernel)) (by decide +kernel) trivial (fun _=>rfl)) aB rfl) rfl rfl (by decide) rfl))
theorem mO (T:Txt K mg t) (G_is_fact:jA P w K mg base t):fD P w K mg base t :=
 T.jl.okJ nh (fun vs H Q E h=>aH h) (fun cdv A outer s H vs Q E hr h=>⟨_,kT T G_is_fact hr,by rw [show ee K t=rS K (gav t) cL from rfl];exact aX (N:=["things"]) (cG T) h (by decide)⟩)
def jF (K:Fg) (t:Adr):TS :=
 (b8 (iO (tOr (pe (tB (tCB (yc.r K) (ae (ao 0) aq)))) (pe (tB (aG (iu K) [] E0 (ae (ao 0) aq))))) (cH (tC .non)) cA)
  (b8 (dB (tCB (jm.r K) (ae (aG (dg K) [] E0 (ae (ao 0) aq)) aq)) (aZ 1))
  (b8 (iO (dG (tOp (fun x y=>gtP.r K [x,y]) (tCB (fk.r K) (ae (ao 1) aq)) (tC (.int 400)))) (cH (tC .non)) cA)
  (cH (tCB (nnP.r K) (ae (ao 1) aq))))))
theorem qb (T:Txt K mg t) (G_facts_in_order:cm P w K mg base t) (G_are_facts:fD P w K mg base t) {Q:VK} (hr:cj 6 (A.deeper (envOfC "web_of" (aa aS) s.heap.objs.size t.fR cdv))):JR (fh (CX1 P w) P w K mg base ["facts", "web"] "web_of" (aa aS) t.fR cdv A outer s H E) E t.bI Q (ag aS) (jF K t):=by
 unfold jF;refine BS ?_ T.kK rfl T.lD hr.hd bA rfl tV ?_ rfl
 ·exact (eW (yX (i0 (qV (FJ rfl T.z_isinstance (ar 0 rfl (Or.inl rfl) rfl rfl) rfl (vg (v:=.ty "list") rfl T.z_list (by decide +kernel) rfl (by decide) rfl) (vg (v:=.ty "tuple") rfl T.z_tuple (by decide +kernel) rfl (by decide) rfl)) (fun _=>rfl))) (nT (i0 (qV (aU G_are_facts (hr.mono (by omega)) rfl T.oq T.jl.kp T.n6 .nil aR (eA (ar 0 rfl (Or.inl rfl) rfl rfl) aB rfl) rfl rfl rfl) (fun _=>rfl))))))
 ·refine Di ?_ ?_
  ·refine gC (i:=1) ?_ lX.nd rfl (Or.inl rfl) rfl (Or.inl rfl);exact (eTy jn rfl T.z_tuple (by decide +kernel) (eA (aU G_facts_in_order (hr.mono (by omega)) rfl T.iG T.dO.kp T.iI .nil aR (eA (ar 0 rfl (Or.inl rfl) rfl rfl) aB rfl) rfl rfl rfl) aB rfl) rfl rfl (by decide) rfl)
  ·refine BS ?_ T.kK rfl T.lD hr.hd bA rfl tV ?_ rfl
   ·exact (fS uQ (eB bR rfl T.z_len (by decide +kernel) (eA (ar 1 rfl (Or.inl rfl) rfl rfl) aB rfl) rfl rfl (by decide) rfl) (jY (v:=.int 400) rfl T.g_MOST_FACTS ⟨_,rfl⟩ rfl) (cp _))
   ·exact (Bx (ar 1 rfl (Or.inl rfl) rfl rfl) vU)
theorem uF (T:Txt K mg t) (G_facts_in_order:cm P w K mg base t) (G_are_facts:fD P w K mg base t):fU P w K mg base t :=
 T.gq.okR lX (fun vs H Q E h=>yK h) (fun cdv A outer s H vs Q E hr h=>⟨_,qb T G_facts_in_order G_are_facts hr,by rw [show jF K t=rS K (gav t) cw from rfl];exact aX (N:=["facts", "web"]) (cG T) h (by decide)⟩)
def su (K:Fg) (t:Adr):TS :=
 (cH (o4 (((tC (.str "script")),(ao 0)) :: (((tC (.str "at")),(tC (.int 0))) :: (((tC (.str "left")),(tC (.int 0))) :: [])))))
theorem yr (T:Txt K mg t) (hr:cj 0 (A.deeper (envOfC "_law_pen" (aa bW) s.heap.objs.size t.tU cdv))):JSs (fh CX0 P w K mg base ["_law_script"] "_law_pen" (aa bW) t.tU cdv A outer s H E).nox (ag bW) (su K t):=by
 unfold su;refine cM ?_;exact (eZ (Bq (ePC bA (ar 0 rfl (Or.inl rfl) rfl rfl) (ePC bA bb (ePC bA bb ePN))) (by rfl) (by rfl) (by simp) (by decide)))
theorem BB (T:Txt K mg t):yM P w K mg base t :=
 T.BG.okJ Dg (fun vs H Q E h=>aH h) (fun cdv A outer s H vs Q E hr h=>⟨_,yr T hr,by rw [show su K t=rS K (gav t) wH from rfl];exact aX (N:=["_law_script"]) (cG T) h (by decide)⟩)
def n5 (K:Fg) (t:Adr):TS :=
 (b8 (dB (tOp (fun x y=>eR.r K [x,y]) (ao 0) (tC (.str "at"))) (aZ 2))
  (b8 (iO (dG (tOp (fun x y=>eqP.r K [x,y]) (tOp (fun x y=>eR.r K [x,y]) (ao 0) (tC (.str "left"))) (tC (.int 0)))) (b8 (sH K (ao 0) (tC (.str "at")) (tOp (fun x y=>dW.r K [x,y]) (ao 2) (tC (.int 1))))
  (b8 (dB (tC (.int 1523)) (aZ 3))
  (b8 (iO (dG (tOp (fun x y=>gtP.r K [x,y]) (tCB (fk.r K) (ae (tOp (fun x y=>eR.r K [x,y]) (ao 0) (tC (.str "script"))) aq)) (tC (.int 0)))) (dB (tOp (fun x y=>ixP.r K [x,y]) (tOp (fun x y=>eR.r K [x,y]) (ao 0) (tC (.str "script"))) (tOp (fun x y=>kN.r K [x,y]) (ao 2) (tCB (fk.r K) (ae (tOp (fun x y=>eR.r K [x,y]) (ao 0) (tC (.str "script"))) aq)))) (aZ 3)) cA)
  (b8 (iO (tOr (dG (tOp (fun x y=>geP.r K [x,y]) (ao 2) (tCB (fk.r K) (ae (tOp (fun x y=>eR.r K [x,y]) (ao 0) (tC (.str "script"))) aq)))) (dG (tOp (fun x y=>ltP.r K [x,y]) (tCB (yy.r K) (ae (ao 3) aq)) (tOp (fun x y=>zN.r K [x,y]) (tC (.int 10)) (tC (.int 18)))))) (b8 (dB (tOp (fun x y=>dW.r K [x,y]) (tOp (fun x y=>dW.r K [x,y]) (tOp (fun x y=>kN.r K [x,y]) (ao 3) (tC (.int 2147483489))) (tOp (fun x y=>n8.r K [x,y]) (tC (.int 104395303)) (ao 2))) (tC (.int 709))) (aZ 3))
  (b8 (dB (tOp (fun x y=>kN.r K [x,y]) (tOp (fun x y=>n8.r K [x,y]) (ao 3) (tC (.int 69621))) (tC (.int 2147483647))) (aZ 4))
  (b8 (dB (tOp (fun x y=>kN.r K [x,y]) (tOp (fun x y=>dW.r K [x,y]) (tOp (fun x y=>dW.r K [x,y]) (tOp (fun x y=>n8.r K [x,y]) (ao 4) (ao 4)) (tOp (fun x y=>n8.r K [x,y]) (tC (.int 3001)) (ao 4))) (tOp (fun x y=>n8.r K [x,y]) (tC (.int 20480311)) (ao 2))) (tC (.int 2147483563))) (aZ 4))
  (cH (tOp (fun x y=>kN.r K [x,y]) (tOp (fun x y=>oE.r K [x,y]) (tOp (fun x y=>kN.r K [x,y]) (tOp (fun x y=>n8.r K [x,y]) (ao 4) (tC (.int 40692))) (tC (.int 2147483587))) (tC (.int 23))) (ao 1)))))) cA)
  (sH K (ao 0) (tC (.str "left")) (tCB (yy.r K) (ae (ao 3) aq))))))) cA)
  (b8 (dB (tOp (fun x y=>kN.r K [x,y]) (tOp (fun x y=>eR.r K [x,y]) (ao 0) (tC (.str "left"))) (ao 1)) (aZ 5))
  (b8 (sH K (ao 0) (tC (.str "left")) (tOp (fun x y=>oE.r K [x,y]) (tOp (fun x y=>eR.r K [x,y]) (ao 0) (tC (.str "left"))) (ao 1)))
  (cH (ao 5))))))
theorem vZ (T:Txt K mg t) (hr:cj 0 (A.deeper (envOfC "_law_take" (aa bx) s.heap.objs.size t.lY cdv))):JSs (fh CX0 P w K mg base ["_law_pen_here", "_law_most", "_law_at", "_law_cell", "_law_n", "_law_found"] "_law_take" (aa bx) t.lY cdv A outer s H E).nox (ag bx) (n5 K t):=by
 unfold n5;refine cF ?_ ?_
 ·refine gC (i:=2) ?_ d5.nd rfl (Or.inl rfl) rfl (Or.inl rfl);exact (mV hr.units (ar 0 rfl (Or.inl rfl) rfl rfl) bA (fun _ _=>rfl))
 ·refine cF ?_ ?_
  ·refine lJ ?_ ?_ ?_
   ·exact (fS (kB hr.units) (mV hr.units (ar 0 rfl (Or.inl rfl) rfl rfl) bA (fun _ _=>rfl)) bb (cp _))
   ·refine cF ?_ ?_
    ·exact (vL hr.units (ar 0 rfl (Or.inl rfl) rfl rfl) bA (eOp bt (ar 2 rfl (Or.inl rfl) rfl rfl) bb) rfl)
    ·refine cF ?_ ?_
     ·refine gC (i:=3) ?_ d5.nd rfl (Or.inl rfl) rfl (Or.inl rfl);exact bb
     ·refine cF ?_ ?_
      ·refine lJ ?_ ?_ ?_
       ·exact (fS uQ (eB bR rfl T.z_len (by decide +kernel) (eA (mV hr.units (ar 0 rfl (Or.inl rfl) rfl rfl) bA (fun _ _=>rfl)) aB rfl) rfl rfl (by decide) rfl) bb (cp _))
       ·refine cM ?_;refine gC (i:=3) ?_ d5.nd rfl (Or.inl rfl) rfl (Or.inl rfl);exact (eIx bJ (mV hr.units (ar 0 rfl (Or.inl rfl) rfl rfl) bA (fun _ _=>rfl)) (eOp dM (ar 2 rfl (Or.inl rfl) rfl rfl) (eB bR rfl T.z_len (by decide +kernel) (eA (mV hr.units (ar 0 rfl (Or.inl rfl) rfl rfl) bA (fun _ _=>rfl)) aB rfl) rfl rfl (by decide) rfl)) (fun _ _=>rfl))
       ·exact me
      ·refine cF ?_ ?_
       ·refine lJ ?_ ?_ ?_
        ·exact (eW (yX (fS B6 (ar 2 rfl (Or.inl rfl) rfl rfl) (eB bR rfl T.z_len (by decide +kernel) (eA (mV hr.units (ar 0 rfl (Or.inl rfl) rfl rfl) bA (fun _ _=>rfl)) aB rfl) rfl rfl (by decide) rfl) (cp _)) (nT (fS xE (eB nQ rfl T.z_abs (by decide +kernel) (eA (ar 3 rfl (Or.inl rfl) rfl rfl) aB rfl) rfl rfl (by decide) rfl) (eOp nC bb bb) (cp _)))))
        ·refine cF ?_ ?_
         ·refine gC (i:=3) ?_ d5.nd rfl (Or.inl rfl) rfl (Or.inl rfl);exact (eOp bt (eOp bt (eOp dM (ar 3 rfl (Or.inl rfl) rfl rfl) bb) (eOp fK bb (ar 2 rfl (Or.inl rfl) rfl rfl))) bb)
         ·refine cF ?_ ?_
          ·refine gC (i:=4) ?_ d5.nd rfl (Or.inl rfl) rfl (Or.inl rfl);exact (eOp dM (eOp fK (ar 3 rfl (Or.inl rfl) rfl rfl) bb) bb)
          ·refine cF ?_ ?_
           ·refine gC (i:=4) ?_ d5.nd rfl (Or.inl rfl) rfl (Or.inl rfl);exact (eOp dM (eOp bt (eOp bt (eOp fK (ar 4 rfl (Or.inl rfl) rfl rfl) (ar 4 rfl (Or.inl rfl) rfl rfl)) (eOp fK bb (ar 4 rfl (Or.inl rfl) rfl rfl))) (eOp fK bb (ar 2 rfl (Or.inl rfl) rfl rfl))) bb)
           ·refine cM ?_;exact (eZ (eOp dM (eOp lp (eOp dM (eOp fK (ar 4 rfl (Or.inl rfl) rfl rfl) bb) bb) bb) (ar 1 rfl (Or.inl rfl) rfl rfl)))
        ·exact me
       ·refine cM ?_;exact (vL hr.units (ar 0 rfl (Or.inl rfl) rfl rfl) bA (eB nQ rfl T.z_abs (by decide +kernel) (eA (ar 3 rfl (Or.inl rfl) rfl rfl) aB rfl) rfl rfl (by decide) rfl) rfl)
   ·exact me
  ·refine cF ?_ ?_
   ·refine gC (i:=5) ?_ d5.nd rfl (Or.inl rfl) rfl (Or.inl rfl);exact (eOp dM (mV hr.units (ar 0 rfl (Or.inl rfl) rfl rfl) bA (fun _ _=>rfl)) (ar 1 rfl (Or.inl rfl) rfl rfl))
   ·refine cF ?_ ?_
    ·exact (vL hr.units (ar 0 rfl (Or.inl rfl) rfl rfl) bA (eOp lp (mV hr.units (ar 0 rfl (Or.inl rfl) rfl rfl) bA (fun _ _=>rfl)) (ar 1 rfl (Or.inl rfl) rfl rfl)) rfl)
    ·refine cM ?_;exact (eZ (ar 5 rfl (Or.inl rfl) rfl rfl))
theorem y8 (T:Txt K mg t):cW P w K mg base t :=
 T.br.okJ d5 (fun vs H Q E h=>aH h) (fun cdv A outer s H vs Q E hr h=>⟨_,vZ T hr,by rw [show n5 K t=rS K (gav t) nZ from rfl];exact aX (N:=["_law_pen_here", "_law_most", "_law_at", "_law_cell", "_law_n", "_law_found"]) (cG T) h (by decide)⟩)
def ny (K:Fg) (t:Adr):TS :=
 (b8 (dB (tOp (fun x y=>ixP.r K [x,y]) (kZ (ae (tC (.str "")) (ae (tC (.str "")) (ae (tC (.str "")) (ae (tOp (fun x y=>ixP.r K [x,y]) (kZ (ae (tC (.str "any")) (ae (tC (.str "keeps")) (ae (tC (.str "least")) (ae (tC (.str "is")) (ae (tC (.str "all")) (ae (tC (.str "many")) aq))))))) (aG (aW K) [] E0 (ae (ao 0) (ae (tC (.int 6)) aq)))) aq))))) (aG (aW K) [] E0 (ae (ao 0) (ae (tC (.int 4)) aq)))) (aZ 2))
  (b8 (oT (dG (tOp (fun x y=>ltP.r K [x,y]) (tCB (fk.r K) (ae (ao 2) aq)) (ao 1))) (dB (tOp (fun x y=>dW.r K [x,y]) (ao 2) (tOp (fun x y=>ixP.r K [x,y]) (tC (.str "abcdefghijklmnopqrstuvwxyz")) (aG (aW K) [] E0 (ae (ao 0) (ae (tC (.int 26)) aq))))) (aZ 2)))
  (cH (tSl (vh B0 (vh (Cs K) (B8 K))) (ao 2) jg (u0 (ao 1))))))
theorem wz (T:Txt K mg t) (G_take:cW P w K mg base t) (hr:cj 1 (A.deeper (envOfC "_law_word" (aa bB) s.heap.objs.size t.mR cdv))):JSs (fh CX0 P w K mg base ["_law_pen_here", "_law_many", "_law_word_here"] "_law_word" (aa bB) t.mR cdv A outer s H E).nox (ag bB) (ny K t):=by
 unfold ny;refine cF ?_ ?_
 ·refine gC (i:=2) ?_ nL.nd rfl (Or.inl rfl) rfl (Or.inl rfl);exact (eIx bJ (nj (eA bA (eA bA (eA bA (eA (eIx bJ (nj (eA bA (eA bA (eA bA (eA bA (eA bA (eA bA aB rfl) rfl) rfl) rfl) rfl) rfl)) (aU G_take (hr.mono (by omega)) rfl T.bG T.br.kp T.bF .nil aR (eA (ar 0 rfl (Or.inl rfl) rfl rfl) (eA bb aB rfl) rfl) rfl rfl rfl) (fun _ _=>rfl)) aB rfl) rfl) rfl) rfl)) (aU G_take (hr.mono (by omega)) rfl T.bG T.br.kp T.bF .nil aR (eA (ar 0 rfl (Or.inl rfl) rfl rfl) (eA bb aB rfl) rfl) rfl rfl rfl) (fun _ _=>rfl))
 ·refine cF ?_ ?_
  ·refine BN ?_ ?_ PassesOwn.never
   ·exact (fS xE (eB bR rfl T.z_len (by decide +kernel) (eA (ar 2 rfl (Or.inl rfl) rfl rfl) aB rfl) rfl rfl (by decide) rfl) (ar 1 rfl (Or.inl rfl) rfl rfl) (cp _))
   ·refine cM ?_;refine gC (i:=2) ?_ nL.nd rfl (Or.inl rfl) rfl (Or.inl rfl);exact (eOp bt (ar 2 rfl (Or.inl rfl) rfl rfl) (eIx bJ bA (aU G_take (hr.mono (by omega)) rfl T.bG T.br.kp T.bF .nil aR (eA (ar 0 rfl (Or.inl rfl) rfl rfl) (eA bb aB rfl) rfl) rfl rfl rfl) (fun _ _=>rfl)))
  ·refine cM ?_;exact (eZ (eSl (orS tE (orS oG t8)) (ar 2 rfl (Or.inl rfl) rfl rfl) Ef (eP (ar 1 rfl (Or.inl rfl) rfl rfl))))
theorem yD (T:Txt K mg t) (G_take:cW P w K mg base t):sW P w K mg base t :=
 T.lW.okJ nL (fun vs H Q E h=>aH h) (fun cdv A outer s H vs Q E hr h=>⟨_,wz T G_take hr,by rw [show ny K t=rS K (gav t) ou from rfl];exact aX (N:=["_law_pen_here", "_law_many", "_law_word_here"]) (cG T) h (by decide)⟩)
def n0 (K:Fg) (t:Adr):TS :=
 (b8 (dB (tOp (fun x y=>ixP.r K [x,y]) (kZ (ae (tOp (fun x y=>EB.r K [x,y]) (aG (aW K) [] E0 (ae (ao 0) (ae (tC (.int 9)) aq))) (tC (.int 4))) (ae (gz (ae (aG (i5 K) [] E0 (ae (ao 0) (ae (aG (aW K) [] E0 (ae (ao 0) (ae (tC (.int 9)) aq))) aq))) aq)) (ae (aG (i5 K) [] E0 (ae (ao 0) (ae (tC (.int 3)) aq))) aq)))) (aG (aW K) [] E0 (ae (ao 0) (ae (tC (.int 3)) aq)))) (aZ 1))
  (cH (gz (ae (aG (i5 K) [] E0 (ae (ao 0) (ae (tOp (fun x y=>dW.r K [x,y]) (tC (.int 1)) (aG (aW K) [] E0 (ae (ao 0) (ae (tC (.int 8)) aq)))) aq))) (ae (aG (i5 K) [] E0 (ae (ao 0) (ae (tOp (fun x y=>dW.r K [x,y]) (tC (.int 1)) (aG (aW K) [] E0 (ae (ao 0) (ae (tC (.int 8)) aq)))) aq))) (ae (ao 1) aq))))))
theorem wx (T:Txt K mg t) (G_word:sW P w K mg base t) (G_take:cW P w K mg base t) (hr:cj 2 (A.deeper (envOfC "_law_fact" (aa bD) s.heap.objs.size t.mH cdv))):JSs (fh CX0 P w K mg base ["_law_pen_here", "_law_node"] "_law_fact" (aa bD) t.mH cdv A outer s H E).nox (ag bD) (n0 K t):=by
 unfold n0;refine cF ?_ ?_
 ·refine gC (i:=1) ?_ tm.nd rfl (Or.inl rfl) rfl (Or.inl rfl);exact (eIx bJ (nj (eA (eOp yq (aU G_take (hr.mono (by omega)) rfl T.bG T.br.kp T.bF .nil aR (eA (ar 0 rfl (Or.inl rfl) rfl rfl) (eA bb aB rfl) rfl) rfl rfl rfl) bb) (eA (iE (eA (aU G_word (hr.mono (by omega)) rfl T.oV T.lW.kp T.pM .nil aR (eA (ar 0 rfl (Or.inl rfl) rfl rfl) (eA (aU G_take (hr.mono (by omega)) rfl T.bG T.br.kp T.bF .nil aR (eA (ar 0 rfl (Or.inl rfl) rfl rfl) (eA bb aB rfl) rfl) rfl rfl rfl) aB rfl) rfl) rfl rfl rfl) aB rfl)) (eA (aU G_word (hr.mono (by omega)) rfl T.oV T.lW.kp T.pM .nil aR (eA (ar 0 rfl (Or.inl rfl) rfl rfl) (eA bb aB rfl) rfl) rfl rfl rfl) aB rfl) rfl) rfl)) (aU G_take (hr.mono (by omega)) rfl T.bG T.br.kp T.bF .nil aR (eA (ar 0 rfl (Or.inl rfl) rfl rfl) (eA bb aB rfl) rfl) rfl rfl rfl) (fun _ _=>rfl))
 ·refine cM ?_;exact (eZ (iE (eA (aU G_word (hr.mono (by omega)) rfl T.oV T.lW.kp T.pM .nil aR (eA (ar 0 rfl (Or.inl rfl) rfl rfl) (eA (eOp bt bb (aU G_take (hr.mono (by omega)) rfl T.bG T.br.kp T.bF .nil aR (eA (ar 0 rfl (Or.inl rfl) rfl rfl) (eA bb aB rfl) rfl) rfl rfl rfl)) aB rfl) rfl) rfl rfl rfl) (eA (aU G_word (hr.mono (by omega)) rfl T.oV T.lW.kp T.pM .nil aR (eA (ar 0 rfl (Or.inl rfl) rfl rfl) (eA (eOp bt bb (aU G_take (hr.mono (by omega)) rfl T.bG T.br.kp T.bF .nil aR (eA (ar 0 rfl (Or.inl rfl) rfl rfl) (eA bb aB rfl) rfl) rfl rfl rfl)) aB rfl) rfl) rfl rfl rfl) (eA (ar 1 rfl (Or.inl rfl) rfl rfl) aB rfl) rfl) rfl)))
theorem zK (T:Txt K mg t) (G_word:sW P w K mg base t) (G_take:cW P w K mg base t):uh P w K mg base t :=
 T.xj.okJ tm (fun vs H Q E h=>aH h) (fun cdv A outer s H vs Q E hr h=>⟨_,wx T G_word G_take hr,by rw [show n0 K t=rS K (gav t) oB from rfl];exact aX (N:=["_law_pen_here", "_law_node"]) (cG T) h (by decide)⟩)
def du (K:Fg) (t:Adr):TS :=
 (b8 (dB (tC (.str "abcdefghijklmnopqrstu")) (aZ 1))
  (b8 (dB (aG (aW K) [] E0 (ae (ao 0) (ae (tC (.int 420)) aq))) (aZ 2))
  (b8 (dB (jR [2] (oa (ae (tOp (fun x y=>dW.r K [x,y]) (tC (.int 398)) (aG (aW K) [] E0 (ae (ao 0) (ae (tC (.int 5)) aq)))) aq)) wj (tOp (fun x y=>kN.r K [x,y]) (tOp (fun x y=>n8.r K [x,y]) (tC (.int 11)) (tOp (fun x y=>dW.r K [x,y]) (ao 0) (ao 1))) (tC (.int 420)))) (aZ 3))
  (cH (jR [1] (sJ K (ao 3)) wj (gz (ae (tOp (fun x y=>dW.r K [x,y]) (tC (.str "a")) (tOp (fun x y=>ixP.r K [x,y]) (ao 1) (tOp (fun x y=>oE.r K [x,y]) (ao 0) (tC (.int 21))))) (ae (tC (.str "b")) (ae (tOp (fun x y=>ixP.r K [x,y]) (ao 1) (tOp (fun x y=>kN.r K [x,y]) (ao 0) (tC (.int 21)))) aq)))))))))
theorem j4 (T:Txt K mg t) (G_take:cW P w K mg base t) (hr:cj 1 (A.deeper (envOfC "_law_many_facts" (aa ak) s.heap.objs.size t.cf cdv))):JSs (fh CX0 P w K mg base ["_law_pen_here", "_law_letters", "_law_turn", "_law_ways"] "_law_many_facts" (aa ak) t.cf cdv A outer s H E).nox (ag ak) (du K t):=by
 unfold du;refine cF ?_ ?_
 ·refine gC (i:=1) ?_ cu.nd rfl (Or.inr rfl) rfl (Or.inl rfl);exact bA
 ·refine cF ?_ ?_
  ·refine gC (i:=2) ?_ cu.nd rfl (Or.inr rfl) rfl (Or.inl rfl);exact (aU G_take (hr.mono (by omega)) rfl T.bG T.br.kp T.bF .nil aR (eA (ar 0 rfl (Or.inl rfl) rfl rfl) (eA bb aB rfl) rfl) rfl rfl rfl)
  ·refine cF ?_ ?_
   ·exact (BK (i:=3) ["_law_turn"] (eR1 rfl T.z_range (eA (eOp bt bb (aU G_take (hr.mono (by omega)) rfl T.bG T.br.kp T.bF .nil aR (eA (ar 0 rfl (Or.inl rfl) rfl rfl) (eA bb aB rfl) rfl) rfl rfl rfl)) aB rfl) rfl) eT0 (eC fun _ _ _ _=>(eOp dM (eOp fK bb (eOp bt (ar 0 rfl (Or.inl rfl) rfl rfl) (ar 1 rfl (Or.inr (Or.inl rfl)) rfl rfl))) bb)) cu.nd rfl rfl rfl rfl (bsc (sc:=aa ak) rfl (by decide +kernel)) (by decide +kernel) ⟨rfl,⟨rfl,rfl⟩,trivial⟩ (fun _=>rfl))
   ·refine cM ?_;exact (eZ (vV ["_law_letters"] (eIL (ar 3 rfl (Or.inl rfl) rfl rfl)) eT0 (eC fun _ _ _ _=>(iE (eA (eOp bt bA (eIx bJ (ar 1 rfl (Or.inr (Or.inl rfl)) rfl rfl) (eOp lp (ar 0 rfl (Or.inl rfl) rfl rfl) bb) (fun _ _=>rfl))) (eA bA (eA (eIx bJ (ar 1 rfl (Or.inr (Or.inl rfl)) rfl rfl) (eOp dM (ar 0 rfl (Or.inl rfl) rfl rfl) bb) (fun _ _=>rfl)) aB rfl) rfl) rfl))) rfl (bsc (sc:=aa ak) rfl (by decide +kernel)) (by decide +kernel) ⟨rfl,⟨rfl,rfl⟩,trivial⟩ (fun _=>rfl)))
theorem kL (T:Txt K mg t) (G_take:cW P w K mg base t):d6 P w K mg base t :=
 T.iz.okJ cu (fun vs H Q E h=>aH h) (fun cdv A outer s H vs Q E hr h=>⟨_,j4 T G_take hr,by rw [show du K t=rS K (gav t) dC from rfl];exact aX (N:=["_law_pen_here", "_law_letters", "_law_turn", "_law_ways"]) (cG T) h (by decide)⟩)
def rV (K:Fg) (t:Adr):TS :=
 (b8 (dB (tOp (fun x y=>ixP.r K [x,y]) (kZ (ae (tC (.str "")) (ae (tC (.str "abcdefghi")) (ae (tC (.str "Ab")) (ae (tC (.str "a b")) (ae (tC (.str "a1")) (ae (tC .non) (ae (tC (.int 5)) (ae (tC (.bl true)) (ae (gz (ae (tC (.str "a")) aq)) (ae (kZ (ae (tC (.str "a")) aq)) aq))))))))))) (aG (aW K) [] E0 (ae (ao 0) (ae (tC (.int 10)) aq)))) (aZ 1))
  (b8 (dB (tOp (fun x y=>ixP.r K [x,y]) (kZ (ae (tC (.str "")) (ae (tC (.str "abcdefghi")) (ae (tC (.str "Ab")) (ae (tOp (fun x y=>zN.r K [x,y]) (tC (.int 10)) (tC (.int 30))) (ae (tUn (rU fun i=>.int (-i)) (tOp (fun x y=>zN.r K [x,y]) (tC (.int 10)) (tC (.int 30)))) (ae (tC (.bl true)) (ae (tC .non) (ae (gz (ae (tC (.str "A")) aq)) (ae (gz (ae (tC (.str "a")) (ae (tC (.str "b")) aq))) (ae (kZ (ae (tC (.str "a")) aq)) (ae (gz aq) aq)))))))))))) (aG (aW K) [] E0 (ae (ao 0) (ae (tC (.int 11)) aq)))) (aZ 2))
  (b8 (dB (kZ (ae (gz (ae (ao 1) (ae (tC (.str "b")) (ae (tC (.int 1)) aq)))) (ae (gz (ae (tC (.str "a")) (ae (ao 1) (ae (tC (.int 1)) aq)))) (ae (gz (ae (tC (.str "a")) (ae (tC (.str "b")) (ae (ao 2) aq)))) (ae (gz (ae (tC (.str "a")) (ae (tC (.str "b")) aq))) (ae (gz (ae (tC (.str "a")) (ae (tC (.str "b")) (ae (tC (.int 1)) (ae (tC (.int 1)) aq))))) (ae (kZ (ae (tC (.str "a")) (ae (tC (.str "b")) (ae (tC (.int 1)) aq)))) (ae (gz aq) (ae (tC .non) aq))))))))) (aZ 3))
  (b8 (dB (tOp (fun x y=>dW.r K [x,y]) (ao 3) (kZ (ae (tC (.int 7)) (ae (tC (.str "a b 1")) (ae lN (ae (gz (ae (tC (.str "a")) (ae (gz (ae (tC (.str "b")) aq)) (ae (tC (.int 1)) aq)))) (ae (gz (ae (gz (ae (tC (.str "a")) (ae (tC (.str "b")) (ae (tC (.int 1)) aq)))) aq)) (ae (kZ (ae (gz (ae (tC (.str "a")) (ae (tC (.str "b")) (ae (tC (.int 1)) aq)))) aq)) (ae (tC (.bl false)) aq))))))))) (aZ 3))
  (cH (tOp (fun x y=>ixP.r K [x,y]) (ao 3) (aG (aW K) [] E0 (ae (ao 0) (ae (tCB (fk.r K) (ae (ao 3) aq)) aq)))))))))
theorem zG (T:Txt K mg t) (G_take:cW P w K mg base t) (hr:cj 1 (A.deeper (envOfC "_law_odd" (aa bT) s.heap.objs.size t.t9 cdv))):JSs (fh CX0 P w K mg base ["_law_pen_here", "_law_bad", "_law_end", "_law_some"] "_law_odd" (aa bT) t.t9 cdv A outer s H E).nox (ag bT) (rV K t):=by
 unfold rV;refine cF ?_ ?_
 ·refine gC (i:=1) ?_ ml.nd rfl (Or.inl rfl) rfl (Or.inl rfl);exact (eIx bJ (nj (eA bA (eA bA (eA bA (eA bA (eA bA (eA Al (eA bb (eA eBl (eA (iE (eA bA aB rfl)) (eA (nj (eA bA aB rfl)) aB rfl) rfl) rfl) rfl) rfl) rfl) rfl) rfl) rfl) rfl)) (aU G_take (hr.mono (by omega)) rfl T.bG T.br.kp T.bF .nil aR (eA (ar 0 rfl (Or.inl rfl) rfl rfl) (eA bb aB rfl) rfl) rfl rfl rfl) (fun _ _=>rfl))
 ·refine cF ?_ ?_
  ·refine gC (i:=2) ?_ ml.nd rfl (Or.inl rfl) rfl (Or.inl rfl);exact (eIx bJ (nj (eA bA (eA bA (eA bA (eA (eOp nC bb bb) (eA (eUn Dp (eOp nC bb bb)) (eA eBl (eA Al (eA (iE (eA bA aB rfl)) (eA (iE (eA bA (eA bA aB rfl) rfl)) (eA (nj (eA bA aB rfl)) (eA (iE aB) aB rfl) rfl) rfl) rfl) rfl) rfl) rfl) rfl) rfl) rfl) rfl)) (aU G_take (hr.mono (by omega)) rfl T.bG T.br.kp T.bF .nil aR (eA (ar 0 rfl (Or.inl rfl) rfl rfl) (eA bb aB rfl) rfl) rfl rfl rfl) (fun _ _=>rfl))
  ·refine cF ?_ ?_
   ·refine gC (i:=3) ?_ ml.nd rfl (Or.inl rfl) rfl (Or.inl rfl);exact (nj (eA (iE (eA (ar 1 rfl (Or.inl rfl) rfl rfl) (eA bA (eA bb aB rfl) rfl) rfl)) (eA (iE (eA bA (eA (ar 1 rfl (Or.inl rfl) rfl rfl) (eA bb aB rfl) rfl) rfl)) (eA (iE (eA bA (eA bA (eA (ar 2 rfl (Or.inl rfl) rfl rfl) aB rfl) rfl) rfl)) (eA (iE (eA bA (eA bA aB rfl) rfl)) (eA (iE (eA bA (eA bA (eA bb (eA bb aB rfl) rfl) rfl) rfl)) (eA (nj (eA bA (eA bA (eA bb aB rfl) rfl) rfl)) (eA (iE aB) (eA Al aB rfl) rfl) rfl) rfl) rfl) rfl) rfl) rfl))
   ·refine cF ?_ ?_
    ·refine gC (i:=3) ?_ ml.nd rfl (Or.inl rfl) rfl (Or.inl rfl);exact (eOp bt (ar 3 rfl (Or.inl rfl) rfl rfl) (nj (eA bb (eA bA (eA xV (eA (iE (eA bA (eA (iE (eA bA aB rfl)) (eA bb aB rfl) rfl) rfl)) (eA (iE (eA (iE (eA bA (eA bA (eA bb aB rfl) rfl) rfl)) aB rfl)) (eA (nj (eA (iE (eA bA (eA bA (eA bb aB rfl) rfl) rfl)) aB rfl)) (eA eBl aB rfl) rfl) rfl) rfl) rfl) rfl) rfl)))
    ·refine cM ?_;exact (eZ (eIx bJ (ar 3 rfl (Or.inl rfl) rfl rfl) (aU G_take (hr.mono (by omega)) rfl T.bG T.br.kp T.bF .nil aR (eA (ar 0 rfl (Or.inl rfl) rfl rfl) (eA (eB bR rfl T.z_len (by decide +kernel) (eA (ar 3 rfl (Or.inl rfl) rfl rfl) aB rfl) rfl rfl (by decide) rfl) aB rfl) rfl) rfl rfl rfl) (fun _ _=>rfl)))
theorem CK (T:Txt K mg t) (G_take:cW P w K mg base t):zf P w K mg base t :=
 T.Ax.okJ ml (fun vs H Q E h=>aH h) (fun cdv A outer s H vs Q E hr h=>⟨_,zG T G_take hr,by rw [show rV K t=rS K (gav t) ue from rfl];exact aX (N:=["_law_pen_here", "_law_bad", "_law_end", "_law_some"]) (cG T) h (by decide)⟩)
def jt (K:Fg) (t:Adr):TS :=
 (b8 (dB (aG (aW K) [] E0 (ae (ao 0) (ae (tC (.int 4)) aq))) (aZ 2))
  (b8 (iO (dG (tOp (fun x y=>eqP.r K [x,y]) (ao 2) (tC (.int 0)))) (b8 (dB (kZ (ae (tC .non) (ae (tC (.int 5)) (ae (tC (.str "a b 1")) (ae lN (ae (tC (.bl true)) (ae (kZ (ae (ao 1) aq)) (ae (kZ (ae (ao 1) (ae (ao 1) aq))) (ae (gz (ae (tCB (yZ.r K) (ae (ao 1) aq)) aq)) aq))))))))) (aZ 3))
  (cH (tOp (fun x y=>ixP.r K [x,y]) (ao 3) (aG (aW K) [] E0 (ae (ao 0) (ae (tC (.int 8)) aq)))))) cA)
  (b8 (dB (aG (aW K) [] E0 (ae (ao 0) (ae (tOp (fun x y=>dW.r K [x,y]) (tCB (fk.r K) (ae (ao 1) aq)) (tC (.int 1))) aq))) (aZ 4))
  (b8 (dB (tOp (fun x y=>dW.r K [x,y]) (tOp (fun x y=>dW.r K [x,y]) (tSl (vh B0 (vh (Cs K) (B8 K))) (ao 1) jg (u0 (ao 4))) (kZ (ae (aG (wU K) [] E0 (ae (ao 0) aq)) aq))) (tSl (vh B0 (vh (Cs K) (B8 K))) (ao 1) (u0 (tOp (fun x y=>dW.r K [x,y]) (ao 4) (aG (aW K) [] E0 (ae (ao 0) (ae (tC (.int 2)) aq))))) jg)) (aZ 3))
  (cH (tOp (fun x y=>ixP.r K [x,y]) (kZ (ae (ao 3) (ae (tCB (jm.r K) (ae (ao 3) aq)) aq))) (aG (aW K) [] E0 (ae (ao 0) (ae (tC (.int 2)) aq)))))))))
theorem qE (T:Txt K mg t) (G_take:cW P w K mg base t) (G_odd:zf P w K mg base t) (hr:cj 2 (A.deeper (envOfC "_law_spoilt" (aa aT) s.heap.objs.size t.gp cdv))):JSs (fh CX0 P w K mg base ["_law_pen_here", "_law_facts", "_law_way", "_law_some", "_law_at"] "_law_spoilt" (aa aT) t.gp cdv A outer s H E).nox (ag aT) (jt K t):=by
 unfold jt;refine cF ?_ ?_
 ·refine gC (i:=2) ?_ eT.nd rfl (Or.inl rfl) rfl (Or.inl rfl);exact (aU G_take (hr.mono (by omega)) rfl T.bG T.br.kp T.bF .nil aR (eA (ar 0 rfl (Or.inl rfl) rfl rfl) (eA bb aB rfl) rfl) rfl rfl rfl)
 ·refine cF ?_ ?_
  ·refine lJ ?_ ?_ ?_
   ·exact (fS (kB hr.units) (ar 2 rfl (Or.inl rfl) rfl rfl) bb (cp _))
   ·refine cF ?_ ?_
    ·refine gC (i:=3) ?_ eT.nd rfl (Or.inl rfl) rfl (Or.inl rfl);exact (nj (eA Al (eA bb (eA bA (eA xV (eA eBl (eA (nj (eA (ar 1 rfl (Or.inl rfl) rfl rfl) aB rfl)) (eA (nj (eA (ar 1 rfl (Or.inl rfl) rfl rfl) (eA (ar 1 rfl (Or.inl rfl) rfl rfl) aB rfl) rfl)) (eA (iE (eA (eTy (vv rfl) rfl T.z_list (by decide +kernel) (eA (ar 1 rfl (Or.inl rfl) rfl rfl) aB rfl) rfl rfl (by decide) rfl) aB rfl)) aB rfl) rfl) rfl) rfl) rfl) rfl) rfl) rfl))
    ·refine cM ?_;exact (eZ (eIx bJ (ar 3 rfl (Or.inl rfl) rfl rfl) (aU G_take (hr.mono (by omega)) rfl T.bG T.br.kp T.bF .nil aR (eA (ar 0 rfl (Or.inl rfl) rfl rfl) (eA bb aB rfl) rfl) rfl rfl rfl) (fun _ _=>rfl)))
   ·exact me
  ·refine cF ?_ ?_
   ·refine gC (i:=4) ?_ eT.nd rfl (Or.inl rfl) rfl (Or.inl rfl);exact (aU G_take (hr.mono (by omega)) rfl T.bG T.br.kp T.bF .nil aR (eA (ar 0 rfl (Or.inl rfl) rfl rfl) (eA (eOp bt (eB bR rfl T.z_len (by decide +kernel) (eA (ar 1 rfl (Or.inl rfl) rfl rfl) aB rfl) rfl rfl (by decide) rfl) bb) aB rfl) rfl) rfl rfl rfl)
   ·refine cF ?_ ?_
    ·refine gC (i:=3) ?_ eT.nd rfl (Or.inl rfl) rfl (Or.inl rfl);exact (eOp bt (eOp bt (eSl (orS tE (orS oG t8)) (ar 1 rfl (Or.inl rfl) rfl rfl) Ef (eP (ar 4 rfl (Or.inl rfl) rfl rfl))) (nj (eA (aU G_odd (hr.mono (by omega)) rfl T.DU T.Ax.kp T.FQ .nil aR (eA (ar 0 rfl (Or.inl rfl) rfl rfl) aB rfl) rfl rfl rfl) aB rfl))) (eSl (orS tE (orS oG t8)) (ar 1 rfl (Or.inl rfl) rfl rfl) (eP (eOp bt (ar 4 rfl (Or.inl rfl) rfl rfl) (aU G_take (hr.mono (by omega)) rfl T.bG T.br.kp T.bF .nil aR (eA (ar 0 rfl (Or.inl rfl) rfl rfl) (eA bb aB rfl) rfl) rfl rfl rfl))) Ef))
    ·refine cM ?_;exact (eZ (eIx bJ (nj (eA (ar 3 rfl (Or.inl rfl) rfl rfl) (eA (eTy jn rfl T.z_tuple (by decide +kernel) (eA (ar 3 rfl (Or.inl rfl) rfl rfl) aB rfl) rfl rfl (by decide) rfl) aB rfl) rfl)) (aU G_take (hr.mono (by omega)) rfl T.bG T.br.kp T.bF .nil aR (eA (ar 0 rfl (Or.inl rfl) rfl rfl) (eA bb aB rfl) rfl) rfl rfl rfl) (fun _ _=>rfl)))
theorem u9 (T:Txt K mg t) (G_take:cW P w K mg base t) (G_odd:zf P w K mg base t):lA P w K mg base t :=
 T.o5.okJ eT (fun vs H Q E h=>aH h) (fun cdv A outer s H vs Q E hr h=>⟨_,qE T G_take G_odd hr,by rw [show jt K t=rS K (gav t) i7 from rfl];exact aX (N:=["_law_pen_here", "_law_facts", "_law_way", "_law_some", "_law_at"]) (cG T) h (by decide)⟩)
def g8 (K:Fg) (t:Adr):TS :=
 (cH (tCB (Ee.r K) (ae (aG (gj K) [] E0 (ae (ao 0) aq)) aq)))
theorem oH (T:Txt K mg t) (G_web_of:fU P w K mg base t) (hr:cj 7 (A.deeper (envOfC "_law_refused" (aa aM) s.heap.objs.size t.eo cdv))):JSs (fh CX0 P w K mg base ["_law_thing", "_law_caught", "_ex"] "_law_refused" (aa aM) t.eo cdv A outer s H E).nox (ag aM) (g8 K t):=by
 unfold g8;exact (zg (i:=1) (j:=0) (C:=t.bI) (Dc:=t.cN) (Bs:=[t.eQ,t.fX,t.gm,t.fO,t.jT]) G_web_of (hr.mono (by omega)) rfl T.iP T.gq.kp T.iJ rfl pQ ke.nd rfl (Or.inl rfl) (Or.inl rfl) (Or.inl rfl) rfl rfl rfl (Or.inl rfl) rfl rfl (by decide) rfl rfl rfl rfl rfl rfl (by show ¬("e" : Str)∈(["_law_thing", "_law_caught", "_ex"]:List Str);decide +kernel) T.kK T.kG T.mr_NoWeb_ShapeError rfl T.kY rfl rfl rfl (fun _ _ z=>z) rfl T.z_isinstance rfl T.lD rfl rfl T.z_ValueError T.mv_NoWeb T.vn (fun ea oe=>(by show PA _ _ (ae (tC (.ref t.eQ)) (ae (tC (.ref t.fX)) (ae (tC (.ref t.gm)) (ae (tC (.ref t.fO)) (ae (tC (.ref t.jT)) aq)))));exact JA.h (eA (jY (v:=.ref t.eQ) rfl T.qh rfl rfl) (eA (jY (v:=.ref t.fX) rfl T.tf rfl rfl) (eA (jY (v:=.ref t.gm) rfl T.rO rfl rfl) (eA (jY (v:=.ref t.fO) rfl T.uN rfl rfl) (eA (jY (v:=.ref t.jT) rfl T.wg rfl rfl) aB rfl) rfl) rfl) rfl) rfl))) (by show 5<=sizeLine;decide) (fun B hB=>by simp only [Iz,JY,KR] at hB;rcases hB with rfl | rfl | rfl | rfl | rfl;exact T.k2_NoWeb_Missing;exact T.k2_NoWeb_NoFact;exact T.k2_NoWeb_NoNode;exact T.k2_NoWeb_NoText;exact T.k2_NoWeb_Twice))
theorem qk (T:Txt K mg t) (G_web_of:fU P w K mg base t):jk P w K mg base t :=
 T.fQ.okJ ke (fun vs H Q E h=>aH h) (fun cdv A outer s H vs Q E hr h=>⟨_,oH T G_web_of hr,by rw [show g8 K t=rS K (gav t) gF from rfl];exact aX (N:=["_law_thing", "_law_caught", "_ex"]) (cG T) h (by decide)⟩)
def rH (K:Fg) (t:Adr):TS :=
 (b8 (dB (aG (wV K) [] E0 (ae (ao 0) aq)) (aZ 1))
  (b8 (dB (jR [1] (oa (ae (aG (aW K) [] E0 (ae (ao 1) (ae (tC (.int 13)) aq))) aq)) wj (aG (rL K) [] E0 (ae (ao 1) aq))) (aZ 2))
  (b8 (iO (dG (tOp (fun x y=>eqP.r K [x,y]) (aG (aW K) [] E0 (ae (ao 1) (ae (tC (.int 4)) aq))) (tC (.int 0)))) (b8 (dB (aG (gn K) [] E0 (ae (ao 1) aq)) (aZ 3))
  (b8 (dB (tOp (fun x y=>dW.r K [x,y]) (ao 3) (jR [3,1] (oa (ae (aG (aW K) [] E0 (ae (ao 1) (ae (tC (.int 4)) aq))) aq)) wj (tOp (fun x y=>ixP.r K [x,y]) (ao 1) (aG (aW K) [] E0 (ae (ao 2) (ae (tCB (fk.r K) (ae (ao 1) aq)) aq)))))) (aZ 4))
  (iO (dG (tOp (fun x y=>gtP.r K [x,y]) (tCB (fk.r K) (ae (ao 3) aq)) (tC (.int 400)))) (iO (tOr (pe (tB (aG (fc K) [] E0 (ae (ao 4) aq)))) (pe (tB (aG (fc K) [] E0 (ae (tCB (jm.r K) (ae (ao 4) aq)) aq))))) (cH (tC (.bl false))) cA) (iO (dG (tOp (fun x y=>neP.r K [x,y]) (tCB (fk.r K) (ae (tCB (nnP.r K) (ae (aG (gj K) [] E0 (ae (ao 4) aq)) aq)) aq)) (tCB (fk.r K) (ae (ao 3) aq)))) (cH (tC (.bl false))) cA)))) cA)
  (b8 (dB (tCB (nnP.r K) (ae (aG (gj K) [] E0 (ae (ao 2) aq)) aq)) (aZ 5))
  (b8 (zW (oa (ae (tC (.int 8)) aq)) (aZ 6) (b8 (iO (pe (tB (aG (fc K) [] E0 (ae (aG (mU K) [] E0 (ae (ao 1) (ae (ao 2) aq))) aq)))) (cH (tC (.bl false))) cA)
  (iO (dG (tOp (fun x y=>neP.r K [x,y]) (tCB (nnP.r K) (ae (aG (gj K) [] E0 (ae (ao 2) aq)) aq)) (ao 5))) (cH (tC (.bl false))) cA)))
  (cH (tC (.bl true))))))))
theorem zJ (T:Txt K mg t) (G_pen:yM P w K mg base t) (G_take:cW P w K mg base t) (G_fact:uh P w K mg base t) (G_many_facts:d6 P w K mg base t) (G_refused:jk P w K mg base t) (G_web_of:fU P w K mg base t) (G_spoilt:lA P w K mg base t) (hr:cj 8 (A.deeper (envOfC "law" (aa bK) s.heap.objs.size t.md cdv))):JSs (fh CX0 P w K mg base ["_law_script", "_law_pen_here", "_law_facts", "_law_many", "_law_some", "_law_web", "_law_k"] "law" (aa bK) t.md cdv A outer s H E).nox (ag bK) (rH K t):=by
 unfold rH;refine cF ?_ ?_
 ·refine gC (i:=1) ?_ iZ.nd rfl (Or.inr rfl) rfl (Or.inl rfl);exact (aU G_pen (hr.mono (by omega)) rfl T.DW T.BG.kp T.Gm .nil aR (eA (ar 0 rfl (Or.inl rfl) rfl rfl) aB rfl) rfl rfl rfl)
 ·refine cF ?_ ?_
  ·exact (BK (i:=2) ["_law_pen_here"] (eR1 rfl T.z_range (eA (aU G_take (hr.mono (by omega)) rfl T.bG T.br.kp T.bF .nil aR (eA (ar 1 rfl (Or.inr (Or.inl rfl)) rfl rfl) (eA bb aB rfl) rfl) rfl rfl rfl) aB rfl) rfl) eT0 (eC fun _ _ _ _=>(aU G_fact (hr.mono (by omega)) rfl T.Dl T.xj.kp T.AS .nil aR (eA (ar 1 rfl (Or.inr (Or.inl rfl)) rfl rfl) aB rfl) rfl rfl rfl)) iZ.nd rfl rfl rfl rfl (bsc (sc:=aa bK) rfl (by decide +kernel)) (by decide +kernel) ⟨rfl,⟨rfl,rfl⟩,trivial⟩ (fun _=>rfl))
  ·refine cF ?_ ?_
   ·refine lJ ?_ ?_ ?_
    ·exact (fS (kB hr.units) (aU G_take (hr.mono (by omega)) rfl T.bG T.br.kp T.bF .nil aR (eA (ar 1 rfl (Or.inr (Or.inl rfl)) rfl rfl) (eA bb aB rfl) rfl) rfl rfl rfl) bb (cp _))
    ·refine cF ?_ ?_
     ·refine gC (i:=3) ?_ iZ.nd rfl (Or.inr rfl) rfl (Or.inl rfl);exact (aU G_many_facts (hr.mono (by omega)) rfl T.my T.iz.kp T.mD .nil aR (eA (ar 1 rfl (Or.inr (Or.inl rfl)) rfl rfl) aB rfl) rfl rfl rfl)
     ·refine cF ?_ ?_
      ·refine gC (i:=4) ?_ iZ.nd rfl (Or.inl rfl) rfl (Or.inl rfl);exact (eOp bt (ar 3 rfl (Or.inr (Or.inl rfl)) rfl rfl) (vV ["_law_many", "_law_pen_here"] (eR1 rfl T.z_range (eA (aU G_take (hr.mono (by omega)) rfl T.bG T.br.kp T.bF .nil aR (eA (ar 1 rfl (Or.inr (Or.inl rfl)) rfl rfl) (eA bb aB rfl) rfl) rfl rfl rfl) aB rfl) rfl) eT0 (eC fun _ _ _ _=>(eIx bJ (ar 1 rfl (Or.inr (Or.inl rfl)) rfl rfl) (aU G_take (hr.mono (by omega)) rfl T.bG T.br.kp T.bF .nil aR (eA (ar 2 rfl (Or.inr (Or.inl rfl)) rfl rfl) (eA (eB bR rfl T.z_len (by decide +kernel) (eA (ar 1 rfl (Or.inr (Or.inl rfl)) rfl rfl) aB rfl) rfl rfl (by decide) rfl) aB rfl) rfl) rfl rfl rfl) (fun _ _=>rfl))) rfl (bsc (sc:=aa bK) rfl (by decide +kernel)) (by decide +kernel) ⟨rfl,⟨rfl,rfl⟩,⟨rfl,⟨rfl,rfl⟩,trivial⟩⟩ (fun _=>rfl)))
      ·refine cM ?_;refine lJ ?_ ?_ ?_
       ·exact (fS uQ (eB bR rfl T.z_len (by decide +kernel) (eA (ar 3 rfl (Or.inr (Or.inl rfl)) rfl rfl) aB rfl) rfl rfl (by decide) rfl) bb (cp _))
       ·refine cM ?_;refine lJ ?_ ?_ ?_
        ·exact (eW (yX (i0 (qV (aU G_refused (hr.mono (by omega)) rfl T.jE T.fQ.kp T.jK .nil aR (eA (ar 4 rfl (Or.inl rfl) rfl rfl) aB rfl) rfl rfl rfl) (fun _=>rfl))) (nT (i0 (qV (aU G_refused (hr.mono (by omega)) rfl T.jE T.fQ.kp T.jK .nil aR (eA (eTy jn rfl T.z_tuple (by decide +kernel) (eA (ar 4 rfl (Or.inl rfl) rfl rfl) aB rfl) rfl rfl (by decide) rfl) aB rfl) rfl rfl rfl) (fun _=>rfl))))))
        ·refine cM ?_;exact (eZ eBl)
        ·exact me
       ·refine cM ?_;refine lJ ?_ ?_ ?_
        ·exact (fS (tQ hr.units) (eB bR rfl T.z_len (by decide +kernel) (eA (tJ (C:=t.bI) G_web_of (hr.mono (by omega)) rfl T.iP T.gq.kp T.iJ (eA (ar 4 rfl (Or.inl rfl) rfl rfl) aB rfl) rfl rfl rfl pQ vU) aB rfl) rfl rfl (by decide) rfl) (eB bR rfl T.z_len (by decide +kernel) (eA (ar 3 rfl (Or.inr (Or.inl rfl)) rfl rfl) aB rfl) rfl rfl (by decide) rfl) (cp _))
        ·refine cM ?_;exact (eZ eBl)
        ·exact me
    ·exact me
   ·refine cF ?_ ?_
    ·refine gC (i:=5) ?_ iZ.nd rfl (Or.inl rfl) rfl (Or.inl rfl);exact (tJ (C:=t.bI) G_web_of (hr.mono (by omega)) rfl T.iP T.gq.kp T.iJ (eA (ar 2 rfl (Or.inl rfl) rfl rfl) aB rfl) rfl rfl rfl pQ vU)
    ·refine cF ?_ ?_
     ·refine GB ?_ (eGN (i:=6) iZ.nd rfl (Or.inl rfl) (Or.inl rfl)) ?_ PassesOwn.never rfl (fun _=>rfl)
      ·exact (eR1 rfl T.z_range (eA bb aB rfl) rfl)
      ·refine cF ?_ ?_
       ·refine lJ ?_ ?_ ?_
        ·exact (i0 (qV (aU G_refused (hr.mono (by omega)) rfl T.jE T.fQ.kp T.jK .nil aR (eA (aU G_spoilt (hr.mono (by omega)) rfl T.vt T.o5.kp T.wD .nil aR (eA (ar 1 rfl (Or.inr (Or.inl rfl)) rfl rfl) (eA (ar 2 rfl (Or.inl rfl) rfl rfl) aB rfl) rfl) rfl rfl rfl) aB rfl) rfl rfl rfl) (fun _=>rfl)))
        ·refine cM ?_;exact (eZ eBl)
        ·exact me
       ·refine cM ?_;refine lJ ?_ ?_ ?_
        ·exact (fS (tQ hr.units) (tJ (C:=t.bI) G_web_of (hr.mono (by omega)) rfl T.iP T.gq.kp T.iJ (eA (ar 2 rfl (Or.inl rfl) rfl rfl) aB rfl) rfl rfl rfl pQ vU) (ar 5 rfl (Or.inl rfl) rfl rfl) (cp _))
        ·refine cM ?_;exact (eZ eBl)
        ·exact me
     ·refine cM ?_;exact (eZ eBl)
theorem Av (T:Txt K mg t) (G_pen:yM P w K mg base t) (G_take:cW P w K mg base t) (G_fact:uh P w K mg base t) (G_many_facts:d6 P w K mg base t) (G_refused:jk P w K mg base t) (G_web_of:fU P w K mg base t) (G_spoilt:lA P w K mg base t):D0 P w K mg base t :=
 T.EZ.okJ iZ (fun vs H Q E h=>aH h) (fun cdv A outer s H vs Q E hr h=>⟨_,zJ T G_pen G_take G_fact G_many_facts G_refused G_web_of G_spoilt hr,by rw [show rH K t=rS K (gav t) uE from rfl];exact aX (N:=["_law_script", "_law_pen_here", "_law_facts", "_law_many", "_law_some", "_law_web", "_law_k"]) (cG T) h (by decide)⟩)
end
theorem BC {P:Program} {w:World} {K:Fg} {mg:Str->Option Value} {base:Heap} {t:Adr} (T:Txt K mg t):dN P w K mg base CX0 9 t.md t.nY ["_law_script"] (rC K):=by
 have h_pen:=BB (P:=P) (w:=w) (base:=base) T;have h_take:=y8 (P:=P) (w:=w) (base:=base) T;have h_word:=yD (P:=P) (w:=w) (base:=base) T h_take;have h_fact:=zK (P:=P) (w:=w) (base:=base) T h_word h_take;have h_many_facts:=kL (P:=P) (w:=w) (base:=base) T h_take;have h_kind_of:=qF (P:=P) (w:=w) (base:=base) T;have h_node_key:=nO (P:=P) (w:=w) (base:=base) T h_kind_of;have h_fact_key:=nG (P:=P) (w:=w) (base:=base) T h_node_key;have h_facts_in_order:=gU (P:=P) (w:=w) (base:=base) T h_fact_key;have h_are_letters:=j5 (P:=P) (w:=w) (base:=base) T;have h_is_name:=qy (P:=P) (w:=w) (base:=base) T h_are_letters;have h_is_whole:=oo (P:=P) (w:=w) (base:=base) T;have h_is_number:=nc (P:=P) (w:=w) (base:=base) T h_is_whole;have h_is_said:=qx (P:=P) (w:=w) (base:=base) T h_are_letters;have h_is_node:=qu (P:=P) (w:=w) (base:=base) T h_is_name h_is_number h_is_said;have h_is_fact:=qo (P:=P) (w:=w) (base:=base) T h_is_name h_is_node;have h_are_facts:=mO (P:=P) (w:=w) (base:=base) T h_is_fact;have h_web_of:=uF (P:=P) (w:=w) (base:=base) T h_facts_in_order h_are_facts;have h_refused:=qk (P:=P) (w:=w) (base:=base) T h_web_of;have h_odd:=CK (P:=P) (w:=w) (base:=base) T h_take;have h_spoilt:=u9 (P:=P) (w:=w) (base:=base) T h_take h_odd;have h_law:=Av (P:=P) (w:=w) (base:=base) T h_pen h_take h_fact h_many_facts h_refused h_web_of h_spoilt;exact h_law
theorem Cw {K:Fg} {h:Heap} {mg:Str->Option Value} (X:K.In h) (G:h.Ns mainGlobals mg)
  {f0:Addr} {od0 an0:Option Addr} {sl0:Array (Option Value)} {oc0 kV0 dc0 pm0 cd0 ct0:Value}
  (a0:PySem.W.nsIn K mainGlobals "are_letters" = some (some (.ref f0))) (l0:K.lookup f0=some ⟨oc0,od0,.func (PySem.W.fnOf "are_letters" "are_letters" (ai aj) (ag aj) (aa aj) .none kV0 dc0 pm0 an0 cd0 ct0),sl0⟩) (c0:PySem.W.codeIn K cd0 "are_letters" = true) (k0:PySem.W.keepIn K (.ref f0)=true)
  {f1:Addr} {od1 an1:Option Addr} {sl1:Array (Option Value)} {oc1 kV1 dc1 pm1 cd1 ct1:Value}
  (a1:PySem.W.nsIn K mainGlobals "is_name" = some (some (.ref f1))) (l1:K.lookup f1=some ⟨oc1,od1,.func (PySem.W.fnOf "is_name" "is_name" (ai aJ) (ag aJ) (aa aJ) .none kV1 dc1 pm1 an1 cd1 ct1),sl1⟩) (c1:PySem.W.codeIn K cd1 "is_name" = true) (k1:PySem.W.keepIn K (.ref f1)=true)
  {f2:Addr} {od2 an2:Option Addr} {sl2:Array (Option Value)} {oc2 kV2 dc2 pm2 cd2 ct2:Value}
  (a2:PySem.W.nsIn K mainGlobals "is_whole" = some (some (.ref f2))) (l2:K.lookup f2=some ⟨oc2,od2,.func (PySem.W.fnOf "is_whole" "is_whole" (ai aC) (ag aC) (aa aC) .none kV2 dc2 pm2 an2 cd2 ct2),sl2⟩) (c2:PySem.W.codeIn K cd2 "is_whole" = true) (k2:PySem.W.keepIn K (.ref f2)=true)
  {f3:Addr} {od3 an3:Option Addr} {sl3:Array (Option Value)} {oc3 kV3 dc3 pm3 cd3 ct3:Value}
  (a3:PySem.W.nsIn K mainGlobals "is_number" = some (some (.ref f3))) (l3:K.lookup f3=some ⟨oc3,od3,.func (PySem.W.fnOf "is_number" "is_number" (ai ay) (ag ay) (aa ay) .none kV3 dc3 pm3 an3 cd3 ct3),sl3⟩) (c3:PySem.W.codeIn K cd3 "is_number" = true) (k3:PySem.W.keepIn K (.ref f3)=true)
  {f4:Addr} {od4 an4:Option Addr} {sl4:Array (Option Value)} {oc4 kV4 dc4 pm4 cd4 ct4:Value}
  (a4:PySem.W.nsIn K mainGlobals "is_said" = some (some (.ref f4))) (l4:K.lookup f4=some ⟨oc4,od4,.func (PySem.W.fnOf "is_said" "is_said" (ai aO) (ag aO) (aa aO) .none kV4 dc4 pm4 an4 cd4 ct4),sl4⟩) (c4:PySem.W.codeIn K cd4 "is_said" = true) (k4:PySem.W.keepIn K (.ref f4)=true)
  {f5:Addr} {od5 an5:Option Addr} {sl5:Array (Option Value)} {oc5 kV5 dc5 pm5 cd5 ct5:Value}
  (a5:PySem.W.nsIn K mainGlobals "is_node" = some (some (.ref f5))) (l5:K.lookup f5=some ⟨oc5,od5,.func (PySem.W.fnOf "is_node" "is_node" (ai aP) (ag aP) (aa aP) .none kV5 dc5 pm5 an5 cd5 ct5),sl5⟩) (c5:PySem.W.codeIn K cd5 "is_node" = true) (k5:PySem.W.keepIn K (.ref f5)=true)
  {f6:Addr} {od6 an6:Option Addr} {sl6:Array (Option Value)} {oc6 kV6 dc6 pm6 cd6 ct6:Value}
  (a6:PySem.W.nsIn K mainGlobals "kind_of" = some (some (.ref f6))) (l6:K.lookup f6=some ⟨oc6,od6,.func (PySem.W.fnOf "kind_of" "kind_of" (ai aL) (ag aL) (aa aL) .none kV6 dc6 pm6 an6 cd6 ct6),sl6⟩) (c6:PySem.W.codeIn K cd6 "kind_of" = true) (k6:PySem.W.keepIn K (.ref f6)=true)
  {f7:Addr} {od7 an7:Option Addr} {sl7:Array (Option Value)} {oc7 kV7 dc7 pm7 cd7 ct7:Value}
  (a7:PySem.W.nsIn K mainGlobals "node_key" = some (some (.ref f7))) (l7:K.lookup f7=some ⟨oc7,od7,.func (PySem.W.fnOf "node_key" "node_key" (ai aD) (ag aD) (aa aD) .none kV7 dc7 pm7 an7 cd7 ct7),sl7⟩) (c7:PySem.W.codeIn K cd7 "node_key" = true) (k7:PySem.W.keepIn K (.ref f7)=true)
  {f8:Addr} {od8 an8:Option Addr} {sl8:Array (Option Value)} {oc8 kV8 dc8 pm8 cd8 ct8:Value}
  (a8:PySem.W.nsIn K mainGlobals "is_fact" = some (some (.ref f8))) (l8:K.lookup f8=some ⟨oc8,od8,.func (PySem.W.fnOf "is_fact" "is_fact" (ai aN) (ag aN) (aa aN) .none kV8 dc8 pm8 an8 cd8 ct8),sl8⟩) (c8:PySem.W.codeIn K cd8 "is_fact" = true) (k8:PySem.W.keepIn K (.ref f8)=true)
  {f9:Addr} {od9 an9:Option Addr} {sl9:Array (Option Value)} {oc9 kV9 dc9 pm9 cd9 ct9:Value}
  (a9:PySem.W.nsIn K mainGlobals "fact_key" = some (some (.ref f9))) (l9:K.lookup f9=some ⟨oc9,od9,.func (PySem.W.fnOf "fact_key" "fact_key" (ai aE) (ag aE) (aa aE) .none kV9 dc9 pm9 an9 cd9 ct9),sl9⟩) (c9:PySem.W.codeIn K cd9 "fact_key" = true) (k9:PySem.W.keepIn K (.ref f9)=true)
  {f10:Addr} {od10 an10:Option Addr} {sl10:Array (Option Value)} {oc10 kV10 dc10 pm10 cd10 ct10:Value}
  (a10:PySem.W.nsIn K mainGlobals "facts_in_order" = some (some (.ref f10))) (l10:K.lookup f10=some ⟨oc10,od10,.func (PySem.W.fnOf "facts_in_order" "facts_in_order" (ai ah) (ag ah) (aa ah) .none kV10 dc10 pm10 an10 cd10 ct10),sl10⟩) (c10:PySem.W.codeIn K cd10 "facts_in_order" = true) (k10:PySem.W.keepIn K (.ref f10)=true)
  {f11:Addr} {od11 an11:Option Addr} {sl11:Array (Option Value)} {oc11 kV11 dc11 pm11 cd11 ct11:Value}
  (a11:PySem.W.nsIn K mainGlobals "are_facts" = some (some (.ref f11))) (l11:K.lookup f11=some ⟨oc11,od11,.func (PySem.W.fnOf "are_facts" "are_facts" (ai au) (ag au) (aa au) .none kV11 dc11 pm11 an11 cd11 ct11),sl11⟩) (c11:PySem.W.codeIn K cd11 "are_facts" = true) (k11:PySem.W.keepIn K (.ref f11)=true)
  {f12:Addr} {od12 an12:Option Addr} {sl12:Array (Option Value)} {oc12 kV12 dc12 pm12 cd12 ct12:Value}
  (a12:PySem.W.nsIn K mainGlobals "web_of" = some (some (.ref f12))) (l12:K.lookup f12=some ⟨oc12,od12,.func (PySem.W.fnOf "web_of" "web_of" (ai aS) (ag aS) (aa aS) .none kV12 dc12 pm12 an12 cd12 ct12),sl12⟩) (c12:PySem.W.codeIn K cd12 "web_of" = true) (k12:PySem.W.keepIn K (.ref f12)=true)
  {f13:Addr} {od13 an13:Option Addr} {sl13:Array (Option Value)} {oc13 kV13 dc13 pm13 cd13 ct13:Value}
  (a13:PySem.W.nsIn K mainGlobals "_law_pen" = some (some (.ref f13))) (l13:K.lookup f13=some ⟨oc13,od13,.func (PySem.W.fnOf "_law_pen" "_law_pen" (ai bW) (ag bW) (aa bW) .none kV13 dc13 pm13 an13 cd13 ct13),sl13⟩) (c13:PySem.W.codeIn K cd13 "_law_pen" = true) (k13:PySem.W.keepIn K (.ref f13)=true)
  {f14:Addr} {od14 an14:Option Addr} {sl14:Array (Option Value)} {oc14 kV14 dc14 pm14 cd14 ct14:Value}
  (a14:PySem.W.nsIn K mainGlobals "_law_take" = some (some (.ref f14))) (l14:K.lookup f14=some ⟨oc14,od14,.func (PySem.W.fnOf "_law_take" "_law_take" (ai bx) (ag bx) (aa bx) .none kV14 dc14 pm14 an14 cd14 ct14),sl14⟩) (c14:PySem.W.codeIn K cd14 "_law_take" = true) (k14:PySem.W.keepIn K (.ref f14)=true)
  {f15:Addr} {od15 an15:Option Addr} {sl15:Array (Option Value)} {oc15 kV15 dc15 pm15 cd15 ct15:Value}
  (a15:PySem.W.nsIn K mainGlobals "_law_word" = some (some (.ref f15))) (l15:K.lookup f15=some ⟨oc15,od15,.func (PySem.W.fnOf "_law_word" "_law_word" (ai bB) (ag bB) (aa bB) .none kV15 dc15 pm15 an15 cd15 ct15),sl15⟩) (c15:PySem.W.codeIn K cd15 "_law_word" = true) (k15:PySem.W.keepIn K (.ref f15)=true)
  {f16:Addr} {od16 an16:Option Addr} {sl16:Array (Option Value)} {oc16 kV16 dc16 pm16 cd16 ct16:Value}
  (a16:PySem.W.nsIn K mainGlobals "_law_fact" = some (some (.ref f16))) (l16:K.lookup f16=some ⟨oc16,od16,.func (PySem.W.fnOf "_law_fact" "_law_fact" (ai bD) (ag bD) (aa bD) .none kV16 dc16 pm16 an16 cd16 ct16),sl16⟩) (c16:PySem.W.codeIn K cd16 "_law_fact" = true) (k16:PySem.W.keepIn K (.ref f16)=true)
  {f17:Addr} {od17 an17:Option Addr} {sl17:Array (Option Value)} {oc17 kV17 dc17 pm17 cd17 ct17:Value}
  (a17:PySem.W.nsIn K mainGlobals "_law_many_facts" = some (some (.ref f17))) (l17:K.lookup f17=some ⟨oc17,od17,.func (PySem.W.fnOf "_law_many_facts" "_law_many_facts" (ai ak) (ag ak) (aa ak) .none kV17 dc17 pm17 an17 cd17 ct17),sl17⟩) (c17:PySem.W.codeIn K cd17 "_law_many_facts" = true) (k17:PySem.W.keepIn K (.ref f17)=true)
  {f18:Addr} {od18 an18:Option Addr} {sl18:Array (Option Value)} {oc18 kV18 dc18 pm18 cd18 ct18:Value}
  (a18:PySem.W.nsIn K mainGlobals "_law_odd" = some (some (.ref f18))) (l18:K.lookup f18=some ⟨oc18,od18,.func (PySem.W.fnOf "_law_odd" "_law_odd" (ai bT) (ag bT) (aa bT) .none kV18 dc18 pm18 an18 cd18 ct18),sl18⟩) (c18:PySem.W.codeIn K cd18 "_law_odd" = true) (k18:PySem.W.keepIn K (.ref f18)=true)
  {f19:Addr} {od19 an19:Option Addr} {sl19:Array (Option Value)} {oc19 kV19 dc19 pm19 cd19 ct19:Value}
  (a19:PySem.W.nsIn K mainGlobals "_law_spoilt" = some (some (.ref f19))) (l19:K.lookup f19=some ⟨oc19,od19,.func (PySem.W.fnOf "_law_spoilt" "_law_spoilt" (ai aT) (ag aT) (aa aT) .none kV19 dc19 pm19 an19 cd19 ct19),sl19⟩) (c19:PySem.W.codeIn K cd19 "_law_spoilt" = true) (k19:PySem.W.keepIn K (.ref f19)=true)
  {f20:Addr} {od20 an20:Option Addr} {sl20:Array (Option Value)} {oc20 kV20 dc20 pm20 cd20 ct20:Value}
  (a20:PySem.W.nsIn K mainGlobals "_law_refused" = some (some (.ref f20))) (l20:K.lookup f20=some ⟨oc20,od20,.func (PySem.W.fnOf "_law_refused" "_law_refused" (ai aM) (ag aM) (aa aM) .none kV20 dc20 pm20 an20 cd20 ct20),sl20⟩) (c20:PySem.W.codeIn K cd20 "_law_refused" = true) (k20:PySem.W.keepIn K (.ref f20)=true)
  {f21:Addr} {od21 an21:Option Addr} {sl21:Array (Option Value)} {oc21 kV21 dc21 pm21 cd21 ct21:Value}
  (a21:PySem.W.nsIn K mainGlobals "law" = some (some (.ref f21))) (l21:K.lookup f21=some ⟨oc21,od21,.func (PySem.W.fnOf "law" "law" (ai bK) (ag bK) (aa bK) .none kV21 dc21 pm21 an21 cd21 ct21),sl21⟩) (c21:PySem.W.codeIn K cd21 "law" = true) (k21:PySem.W.keepIn K (.ref f21)=true)
  (z_ValueError:PySem.W.nsIn K mainGlobals "ValueError" = some none)
  (z_abs:PySem.W.nsIn K mainGlobals "abs" = some none)
  (z_all:PySem.W.nsIn K mainGlobals "all" = some none)
  (z_bool:PySem.W.nsIn K mainGlobals "bool" = some none)
  (z_int:PySem.W.nsIn K mainGlobals "int" = some none)
  (z_isinstance:PySem.W.nsIn K mainGlobals "isinstance" = some none)
  (z_len:PySem.W.nsIn K mainGlobals "len" = some none)
  (z_list:PySem.W.nsIn K mainGlobals "list" = some none)
  (z_range:PySem.W.nsIn K mainGlobals "range" = some none)
  (z_sorted:PySem.W.nsIn K mainGlobals "sorted" = some none)
  (z_str:PySem.W.nsIn K mainGlobals "str" = some none)
  (z_tuple:PySem.W.nsIn K mainGlobals "tuple" = some none)
  {tk_GREATEST_NUMBER:Tok} (g_GREATEST_NUMBER:PySem.W.nsIn K mainGlobals "GREATEST_NUMBER" = some (some (Value.int 999999999999999999999999999999 tk_GREATEST_NUMBER)))
  {tk_MOST_FACTS:Tok} (g_MOST_FACTS:PySem.W.nsIn K mainGlobals "MOST_FACTS" = some (some (Value.int 400 tk_MOST_FACTS)))
  {tk_MOST_LETTERS:Tok} (g_MOST_LETTERS:PySem.W.nsIn K mainGlobals "MOST_LETTERS" = some (some (Value.int 8 tk_MOST_LETTERS)))
  {xa_NoWeb:Addr} (m_NoWeb:PySem.W.nsIn K mainGlobals "NoWeb" = some (some (.ref xa_NoWeb))) (e_NoWeb:PySem.W.excIn K xa_NoWeb [.type "ValueError", .type "Exception", .type "BaseException", .type "object"] "ValueError.__new__" = true) (cl_NoWeb:PySem.W.findIn K (.ref xa_NoWeb) "__class__" = some (some (.builtin "object.__class__"))) (ga_NoWeb:PySem.W.findIn K (.ref xa_NoWeb) "__getattribute__" = some (some (.builtin "BaseException.__getattribute__"))) (gg_NoWeb:PySem.W.findIn K (.ref xa_NoWeb) "__getattr__" = some none)
  {xa_ShapeError:Addr} (m_ShapeError:PySem.W.nsIn K mainGlobals "ShapeError" = some (some (.ref xa_ShapeError))) (e_ShapeError:PySem.W.excIn K xa_ShapeError [.type "ValueError", .type "Exception", .type "BaseException", .type "object"] "ValueError.__new__" = true) (cl_ShapeError:PySem.W.findIn K (.ref xa_ShapeError) "__class__" = some (some (.builtin "object.__class__"))) (ga_ShapeError:PySem.W.findIn K (.ref xa_ShapeError) "__getattribute__" = some (some (.builtin "BaseException.__getattribute__"))) (gg_ShapeError:PySem.W.findIn K (.ref xa_ShapeError) "__getattr__" = some none)
  (mr_NoWeb_ShapeError:PySem.W.mroIn K xa_NoWeb (.ref xa_ShapeError)=some true)
  (mv_NoWeb:PySem.W.mroIn K xa_NoWeb (.type "ValueError")=some true)
  {yb_Missing:Addr} (n2_Missing:PySem.W.nsIn K mainGlobals "Missing" = some (some (.ref yb_Missing))) {d2_Missing:Option Addr} {c2_Missing:ClassData} {s2_Missing:Array (Option Value)} (l2_Missing:K.lookup yb_Missing=some ⟨.type "type", d2_Missing,.cls c2_Missing,s2_Missing⟩)
  {yb_NoFact:Addr} (n2_NoFact:PySem.W.nsIn K mainGlobals "NoFact" = some (some (.ref yb_NoFact))) {d2_NoFact:Option Addr} {c2_NoFact:ClassData} {s2_NoFact:Array (Option Value)} (l2_NoFact:K.lookup yb_NoFact=some ⟨.type "type", d2_NoFact,.cls c2_NoFact,s2_NoFact⟩)
  {yb_NoNode:Addr} (n2_NoNode:PySem.W.nsIn K mainGlobals "NoNode" = some (some (.ref yb_NoNode))) {d2_NoNode:Option Addr} {c2_NoNode:ClassData} {s2_NoNode:Array (Option Value)} (l2_NoNode:K.lookup yb_NoNode=some ⟨.type "type", d2_NoNode,.cls c2_NoNode,s2_NoNode⟩)
  {yb_NoText:Addr} (n2_NoText:PySem.W.nsIn K mainGlobals "NoText" = some (some (.ref yb_NoText))) {d2_NoText:Option Addr} {c2_NoText:ClassData} {s2_NoText:Array (Option Value)} (l2_NoText:K.lookup yb_NoText=some ⟨.type "type", d2_NoText,.cls c2_NoText,s2_NoText⟩)
  {yb_Twice:Addr} (n2_Twice:PySem.W.nsIn K mainGlobals "Twice" = some (some (.ref yb_Twice))) {d2_Twice:Option Addr} {c2_Twice:ClassData} {s2_Twice:Array (Option Value)} (l2_Twice:K.lookup yb_Twice=some ⟨.type "type", d2_Twice,.cls c2_Twice,s2_Twice⟩)
  (k2_NoWeb_Missing:PySem.W.mroIn K xa_NoWeb (.ref yb_Missing)=some false)
  (k2_NoWeb_NoFact:PySem.W.mroIn K xa_NoWeb (.ref yb_NoFact)=some false)
  (k2_NoWeb_NoNode:PySem.W.mroIn K xa_NoWeb (.ref yb_NoNode)=some false)
  (k2_NoWeb_NoText:PySem.W.mroIn K xa_NoWeb (.ref yb_NoText)=some false)
  (k2_NoWeb_Twice:PySem.W.mroIn K xa_NoWeb (.ref yb_Twice)=some false)
  : ∃ t:Adr,(∀ (s:Shared) (u:Value),BindsTo s t.nY ⟨[u],[]⟩ [("_law_script", u)])/\Txt K mg t:=by
 refine ⟨⟨f0,PySem.W.fnOf "are_letters" "are_letters" (ai aj) (ag aj) (aa aj) .none kV0 dc0 pm0 an0 cd0 ct0,f1,PySem.W.fnOf "is_name" "is_name" (ai aJ) (ag aJ) (aa aJ) .none kV1 dc1 pm1 an1 cd1 ct1,f2,PySem.W.fnOf "is_whole" "is_whole" (ai aC) (ag aC) (aa aC) .none kV2 dc2 pm2 an2 cd2 ct2,f3,PySem.W.fnOf "is_number" "is_number" (ai ay) (ag ay) (aa ay) .none kV3 dc3 pm3 an3 cd3 ct3,f4,PySem.W.fnOf "is_said" "is_said" (ai aO) (ag aO) (aa aO) .none kV4 dc4 pm4 an4 cd4 ct4,f5,PySem.W.fnOf "is_node" "is_node" (ai aP) (ag aP) (aa aP) .none kV5 dc5 pm5 an5 cd5 ct5,f6,PySem.W.fnOf "kind_of" "kind_of" (ai aL) (ag aL) (aa aL) .none kV6 dc6 pm6 an6 cd6 ct6,f7,PySem.W.fnOf "node_key" "node_key" (ai aD) (ag aD) (aa aD) .none kV7 dc7 pm7 an7 cd7 ct7,f8,PySem.W.fnOf "is_fact" "is_fact" (ai aN) (ag aN) (aa aN) .none kV8 dc8 pm8 an8 cd8 ct8,f9,PySem.W.fnOf "fact_key" "fact_key" (ai aE) (ag aE) (aa aE) .none kV9 dc9 pm9 an9 cd9 ct9,f10,PySem.W.fnOf "facts_in_order" "facts_in_order" (ai ah) (ag ah) (aa ah) .none kV10 dc10 pm10 an10 cd10 ct10,f11,PySem.W.fnOf "are_facts" "are_facts" (ai au) (ag au) (aa au) .none kV11 dc11 pm11 an11 cd11 ct11,f12,PySem.W.fnOf "web_of" "web_of" (ai aS) (ag aS) (aa aS) .none kV12 dc12 pm12 an12 cd12 ct12,f13,PySem.W.fnOf "_law_pen" "_law_pen" (ai bW) (ag bW) (aa bW) .none kV13 dc13 pm13 an13 cd13 ct13,f14,PySem.W.fnOf "_law_take" "_law_take" (ai bx) (ag bx) (aa bx) .none kV14 dc14 pm14 an14 cd14 ct14,f15,PySem.W.fnOf "_law_word" "_law_word" (ai bB) (ag bB) (aa bB) .none kV15 dc15 pm15 an15 cd15 ct15,f16,PySem.W.fnOf "_law_fact" "_law_fact" (ai bD) (ag bD) (aa bD) .none kV16 dc16 pm16 an16 cd16 ct16,f17,PySem.W.fnOf "_law_many_facts" "_law_many_facts" (ai ak) (ag ak) (aa ak) .none kV17 dc17 pm17 an17 cd17 ct17,f18,PySem.W.fnOf "_law_odd" "_law_odd" (ai bT) (ag bT) (aa bT) .none kV18 dc18 pm18 an18 cd18 ct18,f19,PySem.W.fnOf "_law_spoilt" "_law_spoilt" (ai aT) (ag aT) (aa aT) .none kV19 dc19 pm19 an19 cd19 ct19,f20,PySem.W.fnOf "_law_refused" "_law_refused" (ai aM) (ag aM) (aa aM) .none kV20 dc20 pm20 an20 cd20 ct20,f21,PySem.W.fnOf "law" "law" (ai bK) (ag bK) (aa bK) .none kV21 dc21 pm21 an21 cd21 ct21,xa_NoWeb,xa_ShapeError,yb_Missing,yb_NoFact,yb_NoNode,yb_NoText,yb_Twice,tk_GREATEST_NUMBER,tk_MOST_FACTS,tk_MOST_LETTERS⟩,fun s u=>.of_eq rfl,?_⟩
 exact ⟨az (st:=aj) l0 c0 k0,
  (az (st:=aj) l0 c0 k0).binds (ps:=["thing", "fewest"]) fun _ _ _ _ _ _ us hl=>match us,hl with | [_,_],_=>rfl,
  IQ X G a0,
  az (st:=aJ) l1 c1 k1,
  (az (st:=aJ) l1 c1 k1).binds (ps:=["thing"]) fun _ _ _ _ _ _ us hl=>match us,hl with | [_],_=>rfl,
  IQ X G a1,
  az (st:=aC) l2 c2 k2,
  (az (st:=aC) l2 c2 k2).binds (ps:=["thing"]) fun _ _ _ _ _ _ us hl=>match us,hl with | [_],_=>rfl,
  IQ X G a2,
  az (st:=ay) l3 c3 k3,
  (az (st:=ay) l3 c3 k3).binds (ps:=["thing"]) fun _ _ _ _ _ _ us hl=>match us,hl with | [_],_=>rfl,
  IQ X G a3,
  az (st:=aO) l4 c4 k4,
  (az (st:=aO) l4 c4 k4).binds (ps:=["thing"]) fun _ _ _ _ _ _ us hl=>match us,hl with | [_],_=>rfl,
  IQ X G a4,
  az (st:=aP) l5 c5 k5,
  (az (st:=aP) l5 c5 k5).binds (ps:=["thing"]) fun _ _ _ _ _ _ us hl=>match us,hl with | [_],_=>rfl,
  IQ X G a5,
  az (st:=aL) l6 c6 k6,
  (az (st:=aL) l6 c6 k6).binds (ps:=["node"]) fun _ _ _ _ _ _ us hl=>match us,hl with | [_],_=>rfl,
  IQ X G a6,
  az (st:=aD) l7 c7 k7,
  (az (st:=aD) l7 c7 k7).binds (ps:=["node"]) fun _ _ _ _ _ _ us hl=>match us,hl with | [_],_=>rfl,
  IQ X G a7,
  az (st:=aN) l8 c8 k8,
  (az (st:=aN) l8 c8 k8).binds (ps:=["thing"]) fun _ _ _ _ _ _ us hl=>match us,hl with | [_],_=>rfl,
  IQ X G a8,
  az (st:=aE) l9 c9 k9,
  (az (st:=aE) l9 c9 k9).binds (ps:=["fact"]) fun _ _ _ _ _ _ us hl=>match us,hl with | [_],_=>rfl,
  IQ X G a9,
  az (st:=ah) l10 c10 k10,
  (az (st:=ah) l10 c10 k10).binds (ps:=["facts"]) fun _ _ _ _ _ _ us hl=>match us,hl with | [_],_=>rfl,
  IQ X G a10,
  az (st:=au) l11 c11 k11,
  (az (st:=au) l11 c11 k11).binds (ps:=["things"]) fun _ _ _ _ _ _ us hl=>match us,hl with | [_],_=>rfl,
  IQ X G a11,
  az (st:=aS) l12 c12 k12,
  (az (st:=aS) l12 c12 k12).binds (ps:=["facts"]) fun _ _ _ _ _ _ us hl=>match us,hl with | [_],_=>rfl,
  IQ X G a12,
  az (st:=bW) l13 c13 k13,
  (az (st:=bW) l13 c13 k13).binds (ps:=["_law_script"]) fun _ _ _ _ _ _ us hl=>match us,hl with | [_],_=>rfl,
  IQ X G a13,
  az (st:=bx) l14 c14 k14,
  (az (st:=bx) l14 c14 k14).binds (ps:=["_law_pen_here", "_law_most"]) fun _ _ _ _ _ _ us hl=>match us,hl with | [_,_],_=>rfl,
  IQ X G a14,
  az (st:=bB) l15 c15 k15,
  (az (st:=bB) l15 c15 k15).binds (ps:=["_law_pen_here", "_law_many"]) fun _ _ _ _ _ _ us hl=>match us,hl with | [_,_],_=>rfl,
  IQ X G a15,
  az (st:=bD) l16 c16 k16,
  (az (st:=bD) l16 c16 k16).binds (ps:=["_law_pen_here"]) fun _ _ _ _ _ _ us hl=>match us,hl with | [_],_=>rfl,
  IQ X G a16,
  az (st:=ak) l17 c17 k17,
  (az (st:=ak) l17 c17 k17).binds (ps:=["_law_pen_here"]) fun _ _ _ _ _ _ us hl=>match us,hl with | [_],_=>rfl,
  IQ X G a17,
  az (st:=bT) l18 c18 k18,
  (az (st:=bT) l18 c18 k18).binds (ps:=["_law_pen_here"]) fun _ _ _ _ _ _ us hl=>match us,hl with | [_],_=>rfl,
  IQ X G a18,
  az (st:=aT) l19 c19 k19,
  (az (st:=aT) l19 c19 k19).binds (ps:=["_law_pen_here", "_law_facts"]) fun _ _ _ _ _ _ us hl=>match us,hl with | [_,_],_=>rfl,
  IQ X G a19,
  az (st:=aM) l20 c20 k20,
  (az (st:=aM) l20 c20 k20).binds (ps:=["_law_thing"]) fun _ _ _ _ _ _ us hl=>match us,hl with | [_],_=>rfl,
  IQ X G a20,
  az (st:=bK) l21 c21 k21,
  (az (st:=bK) l21 c21 k21).binds (ps:=["_law_script"]) fun _ _ _ _ _ _ us hl=>match us,hl with | [_],_=>rfl,
  IQ X G a21,
  Jq X G z_ValueError,
  Jq X G z_abs,
  Jq X G z_all,
  Jq X G z_bool,
  Jq X G z_int,
  Jq X G z_isinstance,
  Jq X G z_len,
  Jq X G z_list,
  Jq X G z_range,
  Jq X G z_sorted,
  Jq X G z_str,
  Jq X G z_tuple,
  IQ X G g_GREATEST_NUMBER,
  IQ X G g_MOST_FACTS,
  IQ X G g_MOST_LETTERS,
  IQ X G m_NoWeb,
  ⟨e_NoWeb,cl_NoWeb,ga_NoWeb,gg_NoWeb⟩,
  IQ X G m_ShapeError,
  ⟨e_ShapeError,cl_ShapeError,ga_ShapeError,gg_ShapeError⟩,
  mr_NoWeb_ShapeError,
  mv_NoWeb,
  IQ X G n2_Missing,
  IQ X G n2_NoFact,
  IQ X G n2_NoNode,
  IQ X G n2_NoText,
  IQ X G n2_Twice,
  Au ⟨e_NoWeb,cl_NoWeb,ga_NoWeb,gg_NoWeb⟩,
  jo ⟨e_NoWeb,cl_NoWeb,ga_NoWeb,gg_NoWeb⟩ l2_Missing k2_NoWeb_Missing,
  jo ⟨e_NoWeb,cl_NoWeb,ga_NoWeb,gg_NoWeb⟩ l2_NoFact k2_NoWeb_NoFact,
  jo ⟨e_NoWeb,cl_NoWeb,ga_NoWeb,gg_NoWeb⟩ l2_NoNode k2_NoWeb_NoNode,
  jo ⟨e_NoWeb,cl_NoWeb,ga_NoWeb,gg_NoWeb⟩ l2_NoText k2_NoWeb_NoText,
  jo ⟨e_NoWeb,cl_NoWeb,ga_NoWeb,gg_NoWeb⟩ l2_Twice k2_NoWeb_Twice⟩
local macro_rules | `(tactic| walk_at "p")=>`(tactic| first | with_reducible refine AK ?_ | walk_at "p0")
local macro_rules | `(tactic| walk_at "p0")=>`(tactic| first
 | with_reducible refine Bf ?_ | with_reducible refine AD ?_ | with_reducible refine Bg ?_ | with_reducible refine Aj ?_ | with_reducible refine Cq ?_ | with_reducible refine D6 ?_ | with_reducible refine Cf ?_ | with_reducible refine Gn ?_ | with_reducible refine Hu ?_ | with_reducible refine DR ?_ | with_reducible refine Ep ?_ | with_reducible refine DY ?_ | with_reducible refine Ed ?_
 | with_reducible refine DQ ?_ | with_reducible refine z5 ?_ | with_reducible refine DN ?_
 | ((with_reducible refine w_var (d:=?d9) ?e9 ?_);(case e9=>exact rfl)) | ((with_reducible refine BW (d:=?d9) ?e9 ?_);(case e9=>exact rfl)) | ((with_reducible refine Bk (d:=?d9) ?e9 ?_);(case e9=>exact rfl)) | ((with_reducible refine AU (d:=?d9) ?e9 ?_);(case e9=>exact rfl))
 | ((with_reducible refine EG (d:=?d9) ?e9 ?_);(case e9=>exact rfl)) | ((with_reducible refine Fo (d:=?d9) ?e9 ?_);(case e9=>exact rfl)) | ((with_reducible refine D8 (d:=?d9) ?e9 ?_);(case e9=>exact rfl))
 | with_reducible refine Fd ?_ | with_reducible refine Ci ?_ | with_reducible refine E7 ?_ | ((with_reducible refine FV (d:=?d9) ?e9 ?f9 ?_);(case e9=>exact rfl);(case f9=>exact rfl))
 | with_reducible refine CY ?_ | with_reducible refine BH ?_ | with_reducible refine El ?_ | with_reducible refine AI ?_ | with_reducible refine Gf ?_ | with_reducible refine Bz ?_ | with_reducible refine CW ?_ | with_reducible refine FE ?_ | with_reducible refine FT rfl ?_ | with_reducible refine BU rfl ?_
 | with_reducible refine DS ?_ | with_reducible refine Gk ?_ | with_reducible refine w_and ?_ | with_reducible refine w_or ?_ | with_reducible refine w_not ?_ | with_reducible refine EH ?_
 | with_reducible refine HM ?_ | with_reducible refine Hk ?_ | with_reducible refine HB ?_ | with_reducible refine HX ?_ | with_reducible refine Hb ?_ | with_reducible refine HF ?_ | with_reducible refine Hl ?_
 | walk_at "q")
local macro_rules | `(tactic| walk_at "q0")=>`(tactic| first
 | ((with_reducible refine vy ?e9 ?_);(case e9=>exact rfl)) | ((with_reducible refine vH ?e9 ?_);(case e9=>exact rfl))
 | ((show WPr _ _ _ _);refine ⟨_,_,rfl,rfl,?_⟩) | ((show WPr _ _ _ _);(refine ⟨_,_,rfl,Ip ?c9,?_⟩);(case c9=>walk_at "c")) | ((show Du _ _ _ _);refine ⟨_,_,rfl,rfl,?_⟩) | ((show vP _ _ _);refine ⟨_,rfl,?_⟩) | ((show DB _ _ _ _ _ _ _);refine ⟨_,rfl,rfl,?_⟩) | ((show A9 _ _ _ _ _ _);refine ⟨_,_,_,rfl,rfl,rfl,?_⟩) | ((show DF _ _ _ _ _ _);refine ⟨_,rfl,rfl,?_⟩) | ((show Ds _ _ _ _ _);refine ⟨_,_,_,rfl,rfl,rfl,?_⟩) | ((show WMr _ _ _ _ _);refine ⟨_,_,_,_,rfl,rfl,rfl,?_⟩) | ((show WTp _ _ _ _);refine ⟨_,rfl,Nat.le_of_ble_eq_true rfl,?_⟩) | ((show DE _ _ _ _);refine ⟨_,_,rfl,rfl,?_⟩) | ((show AW _ _ _ _);refine ⟨_,rfl,rfl,?_⟩) | ((show rD _ _ _ _);refine ⟨_,rfl,rfl,?_⟩)
 | ((with_reducible refine ⟨_,rfl,?_⟩)))
local macro_rules | `(tactic| walk_at "pp")=>`(tactic| repeat walk_at "p")
local macro_rules | `(tactic| walk_at "c")=>`(tactic| first | exact rfl | assumption | (simp only [mulC,Bool.or_eq_true,Ji,KO] <;> omega))
local macro_rules | `(tactic| walk_at "pz")=>`(tactic| repeat walk_at "p0")
local macro_rules | `(tactic| walk_at "n=")=>`(tactic| ((try dsimp only [Cst.i,Cst.s,Cst.b,Cst.n,RV.av,ax,List.replicate_succ,List.replicate_zero,dU,iR,aK,cc,bh,ft,nH,List.set_cons_zero,List.set_cons_succ,List.getElem?_cons_zero,KW,Jj,List.map_nil,List.tail_cons,Option.getD_some,decide_true,decide_false,List.drop_succ_cons,KG]);exact rfl))
local macro_rules | `(tactic| walk_at "n")=>`(tactic| first
 | ((with_reducible refine BP (e':=?e9) ?h9 ?_);(case h9=>walk_at "n=")) | ((with_reducible refine yh (e':=?e9) ?h9 ?_);(case h9=>walk_at "n=")) | ((with_reducible refine As (e':=?e9) ?h9 ?_);(case h9=>walk_at "n=")) | ((with_reducible refine G5 (e':=?e9) ?h9 ?_);(case h9=>walk_at "n=")) | ((with_reducible refine G9 (e':=?e9) ?h9 ?_);(case h9=>walk_at "n=")) | ((with_reducible refine Hf (e':=?e9) ?h9 ?_);(case h9=>walk_at "n=")) | ((with_reducible refine Ho (e':=?e9) ?h9 ?_);(case h9=>walk_at "n=")) | ((with_reducible refine Hj (e':=?e9) ?h9 ?_);(case h9=>walk_at "n=")) | ((with_reducible refine ED (e':=?e9) ?h9 ?_);(case h9=>walk_at "n=")) | ((with_reducible refine yd (e':=?e9) ?h9 ?_);(case h9=>walk_at "n=")) | ((with_reducible refine Ff (e':=?e9) ?h9 ?_);(case h9=>walk_at "n=")) | ((with_reducible refine D7 (e':=?e9) ?h9 ?_);(case h9=>walk_at "n=")) | ((with_reducible refine EF (e':=?e9) ?h9 ?_);(case h9=>walk_at "n=")) | ((with_reducible refine Cu (e':=?e9) ?h9 ?_);(case h9=>walk_at "n=")) | ((with_reducible refine A5 (e':=?e9) ?h9 ?_);(case h9=>walk_at "n=")) | ((with_reducible refine zx (e':=?e9) ?h9 ?_);(case h9=>walk_at "n=")) | ((with_reducible refine Bm (e':=?e9) ?h9 ?_);(case h9=>walk_at "n=")) | ((with_reducible refine AJ (e':=?e9) ?h9 ?_);(case h9=>walk_at "n=")) | ((with_reducible refine z8 (e':=?e9) ?h9 ?_);(case h9=>walk_at "n=")))
local macro_rules | `(tactic| walk_at "soft")=>`(tactic| first | exact yt | exact uC | exact D4 | assumption)
local macro_rules | `(tactic| walk_at "l1")=>`(tactic| first | (rename_i h9;obtain ⟨_,h8,rfl⟩:=h9) | (rename_i h9;obtain ⟨_,_,_,h8,rfl⟩:=h9))
local macro_rules | `(tactic| walk_at "l")=>`(tactic| repeat walk_at "l1")
local macro_rules | `(tactic| walk_at "L1")=>`(tactic| first | exact (rfl:zX [] []) | refine ⟨_,?_,rfl⟩ | ((refine ⟨_,_,?s9,?_,rfl⟩);(case s9=>walk_at "soft")))
local macro_rules | `(tactic| walk_at "L")=>`(tactic| repeat walk_at "L1")
local macro_rules | `(tactic| walk_at "q")=>`(tactic| first | walk_at "q0" | ((show GO _ _ _ _);refine ⟨_,_,_,rfl,rfl,rfl,?_⟩) | ((show G3 _ _ _ _ _);refine ⟨_,_,rfl,rfl,?_⟩) | ((show AW _ _ _ _);(refine ⟨_,rfl,vW rfl ?s9,?_⟩);(case s9=>walk_at "soft")) | ((show rD _ _ _ _);(refine ⟨_,rfl,vW rfl ?s9,?_⟩);(case s9=>walk_at "soft")))
local macro_rules | `(tactic| walk_at "fT1")=>`(tactic| ((refine qc ?f9 ?_);(case f9=>((refine vW rfl ?s9);(case s9=>walk_at "soft")))))
local macro_rules | `(tactic| walk_at "fT")=>`(tactic| ((refine Ay (e2:=?e9) ?h9 ?_);(case h9=>((repeat walk_at "fT1");exact rfl))))
local macro_rules | `(tactic| walk_at "f")=>`(tactic| ((refine F3 ?h9 ?_);(case h9=>((refine vW rfl ?s9);(case s9=>walk_at "soft")));walk_at "n"))
local macro_rules | `(tactic| walk_at "ps1")=>`(tactic| ((fail_if_success (with_reducible refine isEq ?_));walk_at "p"))
local macro_rules | `(tactic| walk_at "ps")=>`(tactic| repeat walk_at "ps1")
theorem m8 {c:Bool} {a b:Prop} (h1:c=true->a) (h2:c=false->b):if c=true then a else b:=by
 cases c with
 | true=>rw [Ip rfl];exact h1 rfl
 | false=>rw [Im (by decide)];exact h2 rfl
def zH (cs:List Int) (p l:Int):PyData:=.dict [(.str "script", .list (cs.map .int)),(.str "at", .int p),(.str "left", .int l)]
theorem Bb {ns:List Int} {Q:PR->List PyData->Prop} (q:Q (.frs (zH ns 0 0)) []):WF tH [.list (ns.map .int)] Q:=⟨_,_,rfl,q⟩
theorem zw {cs:List Int} {p l m:Int} {Q:PR->List PyData->Prop} (hp:0<=p) (hb:p < 2 ^ 60) (hl:0<=l) (h0:0 < m) (hm:m < 2 ^ 200) (q:∀ v p' l',0<=v->v < m->0<=p'->p'<=p+1->0<=l'->Q (.dat (.int v)) [zH cs p' l']):WF aQ [zH cs p l,.int m] Q:=by
 refine gJ rfl ?_;have m0:∀ x:Int,0<=x % m/\x % m < m:=fun x=>⟨K3 _ (by omega),KI _ h0⟩;have d0:∀ x:Int,0<=x->0<=x / m:=fun x h=>Int.ediv_nonneg h (Int.le_of_lt h0);have fin:∀ c:Int,0<=(if c < 0 then -c else c):=fun c=>by split <;> omega
 unfold nZ;walk_at "pp";refine m8 (fun e0=>?_) (fun e0=>?_)
 ·walk_at "pp";refine m8 (fun e1=>?_) (fun e1=>?_)
  ·have h1:(0:Int) < (((cs.map PyData.int).length:Nat):Int):=Jm e1;obtain ⟨d,hd,ed⟩:=atV (xs:=cs.map PyData.int) (K3 p (by omega)) (KI p h1);obtain ⟨c,_,rfl⟩:=Jn.mp hd;walk_at "pp";refine rZ rfl ed ?_;clear ed hd;walk_at "pp";refine m8 (fun e2=>?_) (fun e2=>?_)
   ·walk_at "pp";exact q _ _ _ (m0 _).1 (m0 _).2 (by omega) (by omega) hl
   ·walk_at "pp";refine m8 (fun e3=>?_) (fun e3=>?_)
    ·walk_at "pp";exact q _ _ _ (m0 _).1 (m0 _).2 (by omega) (by omega) hl
    ·walk_at "pp";exact q _ _ _ (m0 _).1 (m0 _).2 (by omega) (by omega) (d0 _ (fin c))
  ·walk_at "pp";refine m8 (fun e2=>?_) (fun e2=>?_)
   ·walk_at "pp";exact q _ _ _ (m0 _).1 (m0 _).2 (by omega) (by omega) hl
   ·walk_at "pp";exact q _ _ _ (m0 _).1 (m0 _).2 (by omega) (by omega) hl
 ·walk_at "pp";exact q _ _ _ (m0 l).1 (m0 l).2 hp (by omega) (d0 l hl)
def cz (cs:List Int) (B:Nat) (d:PyData):Prop:=∃ p l:Int,d=zH cs p l/\0<=p/\p<=B/\0<=l
theorem cz.mono {cs:List Int} {B C:Nat} {d:PyData} (h:cz cs B d) (hb:B<=C):cz cs C d:=by
 obtain ⟨p,l,e,a,b,c⟩:=h;exact ⟨p,l,e,a,by omega,c⟩
theorem yQ {cs:List Int} {B:Nat} {pn:PyData} {m:Int} {e1:En} {Q:RV->En->Prop} {i:Nat} (hi:bp e1 i=some pn) (hP:cz cs B pn) (hb:B < 2 ^ 60) (h0:0 < m) (hm:m < 2 ^ 200) (q:∀ v pn',cz cs (B+1) pn'->0<=v->v < m->Q (.dat (.int v)) (iR e1 i pn')):qM aQ [.bor i,.dat (.int m)] e1 Q:=by
 obtain ⟨p,l,rfl,hp,hb',hl⟩:=hP;refine aw (ds:=[zH cs p l,.int m]) (is:=[i]) ?_ rfl (zw hp (by omega) hl h0 hm fun v p' l' a b c d e=>⟨?_,q v _ ⟨p',l',rfl,c,by omega,e⟩ a b⟩)
 ·show j3 e1 [.ino,.dat] _=_;simp only [j3,FZ,hi]
 ·rfl
def Ltr (x:Str):Prop:=∀ c∈x.cps.toList,97<=c/\c<=122
abbrev abc:Str := "abcdefghijklmnopqrstuvwxyz"
theorem jN (x y:Str):(x++y).length=x.length+y.length:=jD x y
theorem jz (x y:Str):(x++y).cps.toList=x.cps.toList++y.cps.toList:=by
 show (x.cps++y.cps).toList=_;simp
theorem eU (c:Nat):(⟨#[c]⟩:Str).length=1:=rfl
theorem tq {x y:Str} (hx:Ltr x) (hy:Ltr y):Ltr (x++y):=fun c hc=>by
 rw [jz] at hc;rcases Ja.mp hc with h | h
 ·exact hx c h
 ·exact hy c h
inductive Nd
 | num (n:Int)
 | jX (x:Str)
 | cb (x:Str)
def Nd.enc:Nd->PyData
 | .num n=>.int n
 | .jX x=>.tuple [.str x]
 | .cb x=>.str x
def Nd.key:Nd->Ky
 | .num n=>(0,n, "")
 | .jX x=>(1,0,x)
 | .cb x=>(2,0,x)
def Em (k:Ky):PyData:=.tuple [.int k.1,.int k.2.1,.str k.2.2]
theorem yS:∀ {a b:Nd},a.key=b.key->a=b
 | .num n,.num m,h=>by have:n=m:=congrArg (·.2.1) h;rw [this]
 | .jX x,.jX y,h=>by have:x=y:=congrArg (·.2.2) h;rw [this]
 | .cb x,.cb y,h=>by have:x=y:=congrArg (·.2.2) h;rw [this]
 | .num _,.jX _,h=>by have:=congrArg (·.1) h;simp [Nd.key] at this
 | .num _,.cb _,h=>by have:=congrArg (·.1) h;simp [Nd.key] at this
 | .jX _,.num _,h=>by have:=congrArg (·.1) h;simp [Nd.key] at this
 | .jX _,.cb _,h=>by have:=congrArg (·.1) h;simp [Nd.key] at this
 | .cb _,.num _,h=>by have:=congrArg (·.1) h;simp [Nd.key] at this
 | .cb _,.jX _,h=>by have:=congrArg (·.1) h;simp [Nd.key] at this
theorem yn:∀ {a b:Nd},PyData.eqv a.enc b.enc=true->a=b
 | .num n,.num m,h=>by
  have:n=m:=by simpa [Nd.enc,PyData.eqv] using h
  rw [this]
 | .jX x,.jX y,h=>by
  have:x=y:=by simpa [Nd.enc,PyData.eqv,PyData.eqvAll] using h
  rw [this]
 | .cb x,.cb y,h=>by
  have:x=y:=by simpa [Nd.enc,PyData.eqv] using h
  rw [this]
 | .num _,.jX _,h=>by simp [Nd.enc,PyData.eqv] at h
 | .num _,.cb _,h=>by simp [Nd.enc,PyData.eqv] at h
 | .jX _,.num _,h=>by simp [Nd.enc,PyData.eqv] at h
 | .jX _,.cb _,h=>by simp [Nd.enc,PyData.eqv] at h
 | .cb _,.num _,h=>by simp [Nd.enc,PyData.eqv] at h
 | .cb _,.jX _,h=>by simp [Nd.enc,PyData.eqv] at h
theorem we (a:Nd):PyData.eqv a.enc a.enc=true:=by
 cases a <;> simp [Nd.enc,PyData.eqv,PyData.eqvAll]
theorem yI (a:Nd):noD a.enc=true:=by cases a <;> rfl
theorem yG (a:Nd):a.enc.depth<=2:=by
 cases a with
 | num n=>simp [Nd.enc,PyData.depth]
 | cb n=>simp [Nd.enc,PyData.depth]
 | jX n=>simp [Nd.enc,PyData.depth,PyData.depthAll]
theorem x4 {a:Nd} {Q:PR->List PyData->Prop} (q:Q (.dat (.str (match a with | .num _ => "number" | .jX _ => "said" | .cb _ => "thing"))) []):WF ig [a.enc] Q:=by
 refine gJ rfl ?_;unfold gX;cases a <;> (unfold Nd.enc;walk_at "pp"; exact q)
theorem CM {a:Nd} {Q:PR->List PyData->Prop} (q:Q (.dat (Em a.key)) []):WF fF [a.enc] Q:=by
 refine gJ rfl ?_;unfold fz;walk_at "pp";refine aw (ds:=[a.enc]) (is:=[]) rfl rfl (x4 ⟨rfl,?_⟩);walk_at "n";cases a with
 | num n =>
  unfold Nd.enc;walk_at "pp";exact q
 | jX n =>
  unfold Nd.enc;walk_at "pp";exact q
 | cb n =>
  unfold Nd.enc;walk_at "pp";exact q
def Nd.sm (a:Nd):Prop:=match a with | .num n=>-1000000000000000000000000000000 < n/\n < 1000000000000000000000000000000 | .jX x=>Ltr x/\x.length<=8 | .cb x=>Ltr x/\x.length<=8/\0 < x.length
structure Fc where
 t:Str
 b:Str
 n:Nd
def Fc.enc (f:Fc):PyData:=.tuple [.str f.t,.str f.b,f.n.enc]
def Nam (x:Str):Prop:=Ltr x/\x.length<=8/\0 < x.length
def Fc.sm (f:Fc):Prop:=Nam f.t/\Nam f.b/\f.n.sm
def Fc.key (f:Fc):Fy:=(f.t,f.b,f.n.key)
def iT (a b:Fc):Bool:=ltF a.key b.key
theorem pG {a b:Fc} (h:a.key=b.key):a=b:=by
 obtain ⟨a1,a2,a3⟩:=a;obtain ⟨b1,b2,b3⟩:=b;have h1:a1=b1:=congrArg (·.1) h;have h2:a2=b2:=congrArg (·.2.1) h;have h3:a3=b3:=yS (congrArg (·.2.2) h);rw [h1,h2,h3]
theorem wb {a b:Fc} (h:PyData.eqv a.enc b.enc=true):a=b:=by
 obtain ⟨a1,a2,a3⟩:=a;obtain ⟨b1,b2,b3⟩:=b;have h:a1=b1/\a2=b2/\PyData.eqv a3.enc b3.enc=true:=by simpa [Fc.enc,PyData.eqv,PyData.eqvAll] using h
 rw [h.1,h.2.1,yn h.2.2]
theorem ri (a:Fc):PyData.eqv a.enc a.enc=true:=by
 simp [Fc.enc,PyData.eqv,PyData.eqvAll,we]
theorem vI (a:Fc):noD a.enc=true:=by
 simp [Fc.enc,noD,j0,yI]
theorem o7 (a:Fc):a.enc.depth<=3:=by
 refine jv (k:=2) fun d hd=>?_;simp only [Iz,JY,KR] at hd;rcases hd with rfl | rfl | rfl
 ·simp [PyData.depth]
 ·simp [PyData.depth]
 ·exact yG _
theorem tX (a:Fc):hk6 a.enc=true:=by
 unfold hk6;rw [Ji];refine ⟨?_,IP (IY (o7 a) (by omega))⟩;obtain ⟨t,b,n⟩:=a;cases n <;> rfl
theorem x5 {a:Fc} {Q:PR->List PyData->Prop} (q:Q (.dat (.tuple [.str a.t,.str a.b,Em a.n.key])) []):WF bU [a.enc] Q:=by
 refine gJ rfl ?_;unfold fu Fc.enc;walk_at "pp";refine aw (ds:=[a.n.enc]) (is:=[]) rfl rfl (CM ⟨rfl,?_⟩);walk_at "n";walk_at "pp";exact q
local macro_rules | `(tactic| walk_at "d")=>`(tactic| ((repeat walk_at "p");(refine yQ (cs:=?c9) (B:=?b9) (pn:=?n9) (m:=?m9) (hi:=?hi9) (hP:=?hP9) ?hb9 ?h09 ?hm9 ?_);(case hi9=>exact rfl);(case hP9=>assumption);(case hb9=>omega);(case h09=>first | decide | omega);(case hm9=>first | decide | omega)))
theorem EK {x:Str} {k:Int} (h:0<=k):(vd x none (some k)).cps.toList=x.cps.toList.take k.toNat:=by
 have:=vJ (xs:=x.cps.toList) h;unfold L2.cutD at this;rw [nM] at this;unfold vd;simpa using this
theorem BL:∀ n < 26,abc.cps.toList[n]?=some (97+n):=by decide +kernel
theorem Cp {r:Int} (h0:0<=r) (h1:r < 26):atI abc.cps.toList r=some (97+r.toNat):=by
 have:=nS (xs:=abc.cps.toList) (j:=r.toNat) (BL r.toNat (by omega))
 rwa [Int.toNat_of_nonneg h0] at this
theorem Gs {r:Int} (h0:0<=r) (h1:r < 26):Ltr ⟨#[97+r.toNat]⟩:=fun c hc=>by
 have:c=97+r.toNat:=by simpa using hc
 omega
abbrev wds:List PyData:=[.str "any", .str "keeps", .str "least", .str "is", .str "all", .str "many"]
theorem e6:∀ w∈wds,∃ z:Str,w=.str z/\z.length<=5/\Ltr z:=by
 intro w h;simp only [Iz,JY,KR] at h;rcases h with rfl | rfl | rfl | rfl | rfl | rfl <;> exact ⟨_,rfl,by decide +kernel,by unfold Ltr;decide +kernel⟩
theorem lq {cs:List Int} {B:Nat} {pn:PyData} {m:Int} {Q:PR->List PyData->Prop} (hP:cz cs B pn) (hb:B < 2 ^ 59) (h0:0<=m) (h1:m<=8) (q:∀ (x:Str) pn',cz cs (B+10) pn'->Ltr x->(x.length:Int)=m->Q (.dat (.str x)) [pn']):WF gL [pn,.int m] Q:=by
 refine gJ rfl ?_;unfold ou;walk_at "d";intro w1 pn1 hP1 w10 w11;walk_at "n";walk_at "pp";obtain ⟨d1,hd1,ed1⟩:=atV (xs:=wds) w10 w11;obtain ⟨z1,rfl,hz1,lz1⟩:=e6 d1 hd1;refine rZ rfl ed1 ?_;clear ed1 hd1;walk_at "d";intro w2 pn2 hP2 w20 w21;walk_at "n";walk_at "pp";obtain ⟨d2,hd2,ed2⟩:=atV (xs:=([.str "", .str "", .str "", .str z1]:List PyData)) w20 w21;have hc:∃ z:Str,d2=.str z/\z.length<=5/\Ltr z:=by
  simp only [Iz,JY,KR] at hd2;rcases hd2 with rfl | rfl | rfl | rfl
  ·exact ⟨_,rfl,by decide,by unfold Ltr;decide⟩
  ·exact ⟨_,rfl,by decide,by unfold Ltr;decide⟩
  ·exact ⟨_,rfl,by decide,by unfold Ltr;decide⟩
  ·exact ⟨_,rfl,hz1,lz1⟩
 obtain ⟨z2,rfl,hz2,lz2⟩:=hc;refine rZ rfl ed2 ?_;clear ed2 hd2;walk_at "pp";refine Hm (fun k e=>∃ (x:Str) (pn':PyData),Ltr x/\x.length<=8/\k=8 - x.length/\cz cs (B+2+x.length) pn'/\e=([.ino pn',.dat (.int m),.dat (.str x)]:En)) (8 - z2.length) (by omega) ⟨z2,pn2,lz2,by omega,rfl,hP2.mono (by omega),rfl⟩ ?_;rintro k e hk ⟨x,pn',hx,hxl,rfl,hP',rfl⟩;walk_at "pp";refine m8 (fun c1=>?_) (fun c1=>?_)
 ·have c1:(x.length:Int) < m:=Jm c1;walk_at "d";intro w4 pn4 hP4 w40 w41;walk_at "n";walk_at "pp";refine yp rfl (Cp w40 w41) ?_;walk_at "pp";refine Ce rfl (by rw [eU];show _<=2 ^ 24;omega) ?_;walk_at "pp";refine ⟨8 - (x.length+1),by omega,_,pn4,tq hx (Gs w40 w41),by rw [jN,eU];omega,by rw [jN,eU],by rw [jN,eU];exact hP4.mono (by omega),rfl⟩
 ·have c1:¬(x.length:Int) < m:=J7 c1;walk_at "pp";have e1:=EK (x:=x) h0;refine q _ pn' (hP'.mono (by omega)) (fun c hc=>?_) ?_
  ·rw [e1] at hc;exact hx c (List.mem_of_mem_take hc)
  ·rw [<- nM,e1,Jh,nM];omega
theorem yz {cs:List Int} {B:Nat} {pn:PyData} {Q:PR->List PyData->Prop} (hP:cz cs B pn) (hb:B < 2 ^ 56) (q:∀ (f:Fc) pn',cz cs (B+50) pn'->f.sm->Q (.dat f.enc) [pn']):WF oN [pn] Q:=by
 refine gJ rfl ?_;unfold oB;walk_at "d";intro w1 pn1 hP1 w10 w11;walk_at "n";walk_at "d";intro w2 pn2 hP2 w20 w21;walk_at "n";walk_at "pp";refine aw (ds:=[pn2,.int w2]) (is:=[0]) rfl rfl (lq hP2 (by omega) w20 (by omega) fun x pn3 hP3 hx hlx=>⟨rfl,?_⟩);walk_at "n";walk_at "pp";refine aw (ds:=[pn3,.int 3]) (is:=[0]) rfl rfl (lq hP3 (by omega) (by decide) (by decide) fun y pn4 hP4 hy hly=>⟨rfl,?_⟩);walk_at "n";walk_at "d";intro w5 pn5 hP5 w50 w51;walk_at "n";walk_at "pp";obtain ⟨d,hd,ed⟩:=atV (xs:=([.int (w1 - 4),.tuple [.str x],.str y]:List PyData)) w50 w51;refine rZ rfl ed ?_;have hn:∃ a:Nd,a.sm/\d=a.enc:=by
  simp only [Iz,JY,KR] at hd;rcases hd with rfl | rfl | rfl
  ·exact ⟨.num (w1 - 4),⟨by omega,by omega⟩,rfl⟩
  ·exact ⟨.jX x,⟨hx,by omega⟩,rfl⟩
  ·exact ⟨.cb y,⟨hy,by omega,by omega⟩,rfl⟩
 clear ed hd;obtain ⟨a,ha,rfl⟩:=hn;walk_at "d";intro w6 pn6 hP6 w60 w61;walk_at "n";walk_at "pp";refine aw (ds:=[pn6,.int (1+w6)]) (is:=[0]) rfl rfl (lq hP6 (by omega) (by omega) (by omega) fun t pn7 hP7 ht hlt=>⟨rfl,?_⟩);walk_at "n";walk_at "d";intro w8 pn8 hP8 w80 w81;walk_at "n";walk_at "pp";refine aw (ds:=[pn8,.int (1+w8)]) (is:=[0]) rfl rfl (lq hP8 (by omega) (by omega) (by omega) fun b pn9 hP9 hb2 hlb=>⟨rfl,?_⟩);walk_at "n";walk_at "pp";have n1:Nam t:=⟨ht,by omega,by omega⟩;have n2:Nam b:=⟨hb2,by omega,by omega⟩;exact q ⟨t,b,a⟩ pn9 (hP9.mono (by omega)) ⟨n1,n2,ha⟩
abbrev abt:Str := "abcdefghijklmnopqrstu"
theorem Ct:∀ n < 21,abt.cps.toList[n]?=some (97+n):=by decide +kernel
theorem xf {r:Int} (h0:0<=r) (h1:r < 21):atI abt.cps.toList r=some (97+r.toNat):=by
 have:=nS (xs:=abt.cps.toList) (j:=r.toNat) (Ct r.toNat (by omega))
 rwa [Int.toNat_of_nonneg h0] at this
def fcW (w:Int):Fc:=⟨"a" ++ ⟨#[97+(w / 21).toNat]⟩, "b", .cb ⟨#[97+(w % 21).toNat]⟩⟩
theorem A4 {w:Int} (h0:0<=w) (h1:w < 420):(fcW w).sm:=by
 have b1:0<=w / 21:=Int.ediv_nonneg h0 (by decide);have b3:0<=w % 21:=K3 _ (by decide);have b4:w % 21 < 21:=KI _ (by decide);have n1:Nam ("a" ++ ⟨#[97+(w / 21).toNat]⟩):=⟨tq (by unfold Ltr;decide) (Gs b1 (by omega)),by rw [jN,eU];decide,by rw [jN,eU];decide⟩;have n2:Nam "b" := ⟨by unfold Ltr;decide,by decide,by decide⟩;have n3:Nd.sm (.cb ⟨#[97+(w % 21).toNat]⟩):=⟨Gs b3 (by omega),by rw [eU];decide,by rw [eU];decide⟩;exact ⟨n1,n2,n3⟩
theorem zM {w v:Int} (h0:0<=w) (h1:0<=v) (e:fcW w=fcW v):w=v:=by
 have e1:(("a" : Str)++⟨#[97+(w / 21).toNat]⟩).cps.toList=(("a" : Str)++⟨#[97+(v / 21).toNat]⟩).cps.toList:=congrArg (fun f=>f.t.cps.toList) e;rw [jz,jz] at e1;have e1:=List.append_cancel_left e1;have e2:(⟨#[97+(w % 21).toNat]⟩:Str)=⟨#[97+(v % 21).toNat]⟩:=Nd.cb.inj (congrArg Fc.n e);have e1:97+(w / 21).toNat=97+(v / 21).toNat:=by simpa using e1
 have e2:97+(w % 21).toNat=97+(v % 21).toNat:=by simpa using e2
 omega
theorem yB {cs:List Int} {B:Nat} {pn:PyData} {Q:PR->List PyData->Prop} (hP:cz cs B pn) (hb:B < 2 ^ 56) (q:∀ (fs:List Fc) pn',cz cs (B+2) pn'->0 < fs.length->fs.length<=402->(∀ f∈fs,f.sm)->fs.Nodup->Q (.frs (.list (fs.map Fc.enc))) [pn']):WF dJ [pn] Q:=by
 refine gJ rfl ?_;unfold dC;walk_at "d";intro w2 pn1 hP1 w20 w21;walk_at "n";walk_at "d";intro w1 pn2 hP2 w10 w11;walk_at "n";walk_at "pp";refine ⟨⟨by omega,by omega⟩,?_⟩;refine fJ (fun j ys ec=>ys=((List.range j).map fun (k:Nat)=>(11*((k:Int)+w2) % 420)).map .int/\ec=[.dat (.int w2)]) ⟨rfl,rfl⟩ ?_ ?_
 ·rintro j d ys ec hd ⟨rfl,rfl⟩;obtain ⟨rfl,hj⟩:=lg hd;refine je ?_;walk_at "pp";refine ⟨?_,rfl⟩;rw [List.range_succ,Jl,Jl];rfl
 rintro ys ec ⟨rfl,rfl⟩;rw [oA];have hw:∀ w∈(List.range (398+w1).toNat).map (fun (k:Nat)=>(11*((k:Int)+w2) % 420)),0<=w/\w < 420:=fun w hw=>by
  obtain ⟨k,_,rfl⟩:=Jn.mp hw;exact ⟨K3 _ (by decide),KI _ (by decide)⟩
 have hl:((List.range (398+w1).toNat).map (fun (k:Nat)=>(11*((k:Int)+w2) % 420))).length=(398+w1).toNat:=by rw [Ig,Js]
 have hnd:((List.range (398+w1).toNat).map (fun (k:Nat)=>(11*((k:Int)+w2) % 420))).Nodup:=by
  unfold List.Nodup;rw [KP,Jy];intro i j hi hj hij;rw [Js] at hi hj;rw [List.getElem_range,List.getElem_range];omega
 generalize (List.range (398+w1).toNat).map (fun (k:Nat)=>(11*((k:Int)+w2) % 420))=ws at hw hl hnd;walk_at "n";walk_at "pp";refine yY rfl ?_;refine fJ (fun j ys ec=>ys=((ws.take j).map fcW).map Fc.enc/\ec=[.dat (.str abt)]) ⟨rfl,rfl⟩ ?_ ?_
 ·rintro j d ys ec hd ⟨rfl,rfl⟩;rw [IJ] at hd;obtain ⟨w,hwj,rfl⟩:=Je.mp hd;have hw':=hw w (IM hwj);have b1:0<=w / 21:=Int.ediv_nonneg hw'.1 (by decide);have b2:w / 21 < 21:=by omega
  have b3:0<=w % 21:=K3 _ (by decide);have b4:w % 21 < 21:=KI _ (by decide);refine je ?_;walk_at "pp";refine yp rfl (xf b1 b2) ?_;walk_at "pp";refine yp rfl (xf b3 b4) ?_;walk_at "pp";refine ⟨?_,rfl⟩;rw [<- take_snoc hwj,Jl,Jl];rfl
 ·rintro ys ec ⟨rfl,rfl⟩;rw [Ig,JV];walk_at "pp";refine q (ws.map fcW) pn2 (hP2.mono (by omega)) (by rw [Ig];omega) (by rw [Ig];omega) (fun f hf=>?_) ?_
  ·obtain ⟨w,hw1,rfl⟩:=Jn.mp hf;exact A4 (hw w hw1).1 (hw w hw1).2
  ·have:=hnd;unfold List.Nodup at this ⊢;rw [KP];exact this.imp_of_mem fun {a b} ha hb z e=>z (zM (hw a ha).1 (hw b hb).1 e)
def chB (c:Nat):Bool:=decide (97<=c)&&decide (c<=122)
def nu (d:PyData) (k:Int):Bool:=match d with
 | .str x=>decide (k<=(x.length:Int))&&(decide ((x.length:Int)<=8)&&x.cps.toList.all chB)
 | _=>false
theorem HL (c:Nat):leS (Str.ofString "a") ⟨#[c]⟩=decide (97<=c):=by
 have e:(Str.ofString "a").cps.toList=[97]:=by decide +kernel
 unfold leS;rw [e];by_cases h:97<=c
 ·rw [IP h,IU]
  ·rfl
  ·intro z;have:c < 97:=by simpa [K6] using z
   omega
 ·rw [IU h,IP]
  ·rfl
  ·simp [K6];omega
theorem HE (c:Nat):leS ⟨#[c]⟩ (Str.ofString "z")=decide (c<=122):=by
 have e:(Str.ofString "z").cps.toList=[122]:=by decide +kernel
 unfold leS;rw [e];by_cases h:c<=122
 ·rw [IP h,IU]
  ·rfl
  ·intro z;have:122 < c:=by simpa [K6] using z
   omega
 ·rw [IU h,IP]
  ·rfl
  ·simp [K6];omega
theorem fo {d:PyData} {k:Int} {Q:PR->List PyData->Prop} (q:Q (.dat (.bool (nu d k))) []):WF b6 [d,.int k] Q:=by
 refine gJ rfl ?_;unfold cS;cases d with
 | str x =>
  replace q:Q (.dat (.bool (decide (k<=(x.length:Int))&&(decide ((x.length:Int)<=8)&&x.cps.toList.all chB)))) []:=q;walk_at "pp";refine m8 (fun c1=>?_) (fun c1=>?_)
  ·have c1:decide (k<=(x.length:Int))=true:=c1;walk_at "pp";rw [c1,Kl] at q;refine m8 (fun c2=>?_) (fun c2=>?_)
   ·have c2:(!decide ((x.length:Int)<=8))=true:=c2;have c2:decide ((x.length:Int)<=8)=false:=by simpa using c2
    walk_at "pp";rw [c2] at q;exact q
   ·have c2:(!decide ((x.length:Int)<=8))=false:=c2;have c2:decide ((x.length:Int)<=8)=true:=by simpa using c2
    rw [c2,Kl] at q;walk_at "pp";refine fJ (fun i ys ec=>ys=((x.cps.toList.take i).map chB).map .bool/\ec=[]) ⟨rfl,rfl⟩ ?_ ?_
    ·rintro i d ys ec hd ⟨rfl,rfl⟩;rw [IJ] at hd;obtain ⟨c,hc,rfl⟩:=Je.mp hd;have e0:((x.cps.toList.take (i+1)).map chB).map PyData.bool=((x.cps.toList.take i).map chB).map PyData.bool++[.bool (chB c)]:=by rw [<- take_snoc hc,Jl,Jl];rfl
     refine je ?_;walk_at "pp";have e1:=HL c;have e2:=HE c;refine m8 (fun d1=>?_) (fun d1=>?_)
     ·have d1:leS (Str.ofString "a") ⟨#[c]⟩=true:=d1;walk_at "pp";refine ⟨?_,rfl⟩;rw [e0];unfold chB;rw [<- e1,d1,<-e2];rfl
     ·have d1:leS (Str.ofString "a") ⟨#[c]⟩=false:=d1;walk_at "pp";refine ⟨?_,rfl⟩;rw [e0];unfold chB;rw [<- e1,d1];rfl
    ·rintro ys ec ⟨rfl,rfl⟩;rw [Ig,JV];walk_at "n";walk_at "pp";refine w_all (bs:=x.cps.toList.map chB) rfl ?_;have e3:(x.cps.toList.map chB).all id=x.cps.toList.all chB:=by rw [List.all_map];rfl
     rw [e3];walk_at "pp";exact q
  ·have c1:decide (k<=(x.length:Int))=false:=c1;walk_at "pp";rw [c1] at q;exact q
 | _ =>
  walk_at "pp";exact q
theorem iq {d:PyData} {Q:PR->List PyData->Prop} (q:Q (.dat (.bool (nu d 1))) []):WF df [d] Q:=by
 refine gJ rfl ?_;unfold gM;walk_at "pp";refine aw (is:=[]) rfl rfl (fo ⟨rfl,?_⟩);walk_at "pp";exact q
def whB:PyData->Bool
 | .int _=>true
 | _=>false
theorem ow {d:PyData} {Q:PR->List PyData->Prop} (q:Q (.dat (.bool (whB d))) []):WF fI [d] Q:=by
 refine gJ rfl ?_;unfold fy;cases d <;> (walk_at "pp"; exact q)
def FR:PyData->Bool
 | .int i=>decide ((if i < 0 then -i else i)<=999999999999999999999999999999)
 | _=>false
theorem lS {d:PyData} {Q:PR->List PyData->Prop} (q:Q (.dat (.bool (FR d))) []):WF eE [d] Q:=by
 refine gJ rfl ?_;unfold d7;walk_at "pp";refine aw (is:=[]) rfl rfl (ow ⟨rfl,?_⟩);cases d <;> (walk_at "pp"; exact q)
def yg:PyData->Bool
 | .tuple [x]=>nu x 0
 | _=>false
theorem qp {d:PyData} {Q:PR->List PyData->Prop} (q:Q (.dat (.bool (yg d))) []):WF gQ [d] Q:=by
 refine gJ rfl ?_;unfold g7;cases d with
 | tuple ds =>
  match ds,q with
  | [],q=>walk_at "pp"; exact q
  | [x],q =>
   walk_at "pp";refine aw (is:=[]) rfl rfl (fo ⟨rfl,?_⟩);walk_at "pp";exact q
  | x :: y :: r,q =>
   walk_at "pp";exact q
 | _ =>
  walk_at "pp";exact q
def kO (d:PyData):Bool:=nu d 1||(FR d||yg d)
theorem qO {d:PyData} {Q:PR->List PyData->Prop} (q:Q (.dat (.bool (kO d))) []):WF g9 [d] Q:=by
 refine gJ rfl ?_;unfold gH;unfold kO at q;walk_at "pp";refine aw (is:=[]) rfl rfl (iq ⟨rfl,?_⟩);walk_at "pp";refine m8 (fun c=>?_) (fun c=>?_)
 ·rw [c,Bool.true_or] at q;walk_at "pp";exact q
 ·rw [c,Bool.false_or] at q;walk_at "pp";refine aw (is:=[]) rfl rfl (lS ⟨rfl,?_⟩);walk_at "pp";refine m8 (fun c=>?_) (fun c=>?_)
  ·rw [c,Bool.true_or] at q;walk_at "pp";exact q
  ·rw [c,Bool.false_or] at q;walk_at "pp";refine aw (is:=[]) rfl rfl (qp ⟨rfl,?_⟩);walk_at "pp";exact q
abbrev Srt (L:List Fc):Prop:=L.Pairwise fun x y=>iT x y=true
theorem yA (a:Fc):iT a a=false:=sM _
theorem Dj {a b c:Fc} (h1:iT a b=true) (h2:iT b c=true):iT a c=true:=wW h1 h2
theorem x9 {a b:Fc} (h:iT a b=false) (h2:iT b a=false):a=b:=by
 apply Ki;intro hn;have:=rW (fun z=>hn (pG z)) h;unfold iT at h2;rw [this] at h2;cases h2
theorem jd {L:List Fc} (h:Srt L):L.Nodup:=h.imp fun {a b} z e=>by rw [e,yA] at z;cases z
abbrev kvs (U:List Fc):List (PyData×PyData):=U.map fun a=>(a.enc,PyData.bool true)
theorem AQ {U:List Fc} {a:Fc} (h:a∈U):putD (kvs U) a.enc (.bool true)=kvs U:=by
 unfold putD;rw [Ip (by rw [KZ];exact ⟨_,Jn.mpr ⟨a,h,rfl⟩,ri a⟩),Kh];refine List.map_congr_left fun b _=>?_;show (if PyData.eqv b.enc a.enc=true then (b.enc,PyData.bool true) else (b.enc,PyData.bool true))=_;split <;> rfl
theorem zO {U:List Fc} {a:Fc} (h:a ∉ U):putD (kvs U) a.enc (.bool true)=kvs (U++[a]):=by
 unfold putD;rw [Im (fun z=>?_)]
 ·unfold kvs;rw [Jl];rfl
 ·rw [KZ] at z;obtain ⟨x,hx,e⟩:=z;obtain ⟨b,hb,rfl⟩:=Jn.mp hx;have:=wb (a:=b) (b:=a) e;exact h (this▸hb)
theorem vK (a:Fc):Sg.Ac fyS bU a.enc=some a.key:=by
 obtain ⟨pr,outs,h,rfl,rfl⟩:=x5 (a:=a) (Q:=fun pr outs=>pr=.dat (.tuple [.str a.t,.str a.b,Em a.n.key])/\outs=[]) ⟨rfl,rfl⟩;unfold Sg.Ac;rw [h];rfl
theorem jW:∀ U:List Fc,Sg.kP fyS bU (U.map Fc.enc)=some (U.map Fc.key)
 | []=>rfl
 | a :: U=>by
  rw [Jj,Jj];unfold Sg.kP;rw [vK,jW U];rfl
theorem jy {U:List Fc} (h:U.Nodup):(U.map Fc.key).Nodup:=by
 unfold List.Nodup;rw [KP];exact h.imp fun {a b} z e=>z (pG e)
theorem uy {U L:List Fc} (hU:U.Nodup) (hL:Srt L) (hm:∀ a,a∈L↔a∈U):(Sg.uI (S:=fyS) ((U.map Fc.key).zip (U.map Fc.enc))).map (·.2)=L.map Fc.enc :=
 BA (S:=fyS) Fc.key Fc.enc (jy hU) hL ((List.perm_ext_iff_of_nodup (jd hL) hU).mpr hm)
def cJ:PyData->Bool
 | .tuple [a,b,c]=>nu a 1&&(nu b 1&&kO c)
 | _=>false
theorem HW:∀ (ds:List PyData),(∃ a b c,ds=[a,b,c])\/(ds.length≠3/\cJ (.tuple ds)=false)
 | []=>.inr ⟨by decide,rfl⟩
 | [a]=>.inr ⟨by simp,rfl⟩
 | [a,b]=>.inr ⟨by simp,rfl⟩
 | [a,b,c]=>.inl ⟨a,b,c,rfl⟩
 | a :: b :: c :: d :: r=>.inr ⟨by simp,rfl⟩
theorem kC {d:PyData} {Q:PR->List PyData->Prop} (q:Q (.dat (.bool (cJ d))) []):WF gY [d] Q:=by
 refine gJ rfl ?_;unfold gO;cases d with
 | tuple ds =>
  rcases HW ds with ⟨a,b,c,rfl⟩ | ⟨hn,hf⟩
  ·replace q:Q (.dat (.bool (nu a 1&&(nu b 1&&kO c)))) []:=q;walk_at "pp";refine aw (is:=[]) rfl rfl (iq ⟨rfl,?_⟩);walk_at "pp";refine m8 (fun c1=>?_) (fun c1=>?_)
   ·rw [c1,Kl] at q;walk_at "pp";refine aw (is:=[]) rfl rfl (iq ⟨rfl,?_⟩);walk_at "pp";refine m8 (fun c2=>?_) (fun c2=>?_)
    ·rw [c2,Kl] at q;walk_at "pp";refine aw (is:=[]) rfl rfl (qO ⟨rfl,?_⟩);walk_at "pp";exact q
    ·rw [c2] at q;walk_at "pp";exact q
   ·rw [c1] at q;walk_at "pp";exact q
  ·walk_at "pp";have hq:PyData.eqv (.int (ds.length:Int)) (.int 3)=false:=by
    simp only [PyData.eqv];rw [beq_eq_false_iff_ne];omega
   refine vy (by show (!PyData.eqv (.int (ds.length:Int)) (.int 3))=true;rw [hq];rfl) ?_;walk_at "pp";rw [hf] at q;exact q
 | _ =>
  walk_at "pp";exact q
theorem lj {x:Str} (h:Nam x):nu (.str x) 1=true:=by
 obtain ⟨h1,h2,h3⟩:=h;show (decide ((1:Int)<=(x.length:Int))&&(decide ((x.length:Int)<=8)&&x.cps.toList.all chB))=true;rw [IP (by omega),IP (by omega),Kl,Kl,J5];intro c hc;have:=h1 c hc;unfold chB;rw [IP this.1,IP this.2];rfl
theorem vz {a:Nd} (h:a.sm):kO a.enc=true:=by
 unfold kO;cases a with
 | num n =>
  have h:-1000000000000000000000000000000 < n/\n < 1000000000000000000000000000000:=h;have:FR (Nd.enc (.num n))=true:=by
   show decide ((if n < 0 then -n else n)<=999999999999999999999999999999)=true;refine IP ?_;split <;> omega
  rw [this];simp
 | jX x =>
  have h:Ltr x/\x.length<=8:=h;have:yg (Nd.enc (.jX x))=true:=by
   show (decide ((0:Int)<=(x.length:Int))&&(decide ((x.length:Int)<=8)&&x.cps.toList.all chB))=true;rw [IP (by omega),IP (by omega),Kl,Kl,J5];intro c hc;have:=h.1 c hc;unfold chB;rw [IP this.1,IP this.2];rfl
  rw [this];simp
 | cb x =>
  have:nu (Nd.enc (.cb x)) 1=true:=lj h;rw [this];rfl
theorem oZ {f:Fc} (h:f.sm):cJ f.enc=true:=by
 show (nu _ 1&&(nu _ 1&&kO _))=true;rw [lj h.1,lj h.2.1,vz h.2.2];rfl
theorem iQ {U:List Fc}:(kvs U).map (·.1)=U.map Fc.enc:=by unfold kvs;rw [Kh];rfl
theorem uL {ns U:List Fc} {i:Nat} {a:Fc} (hU:U.Nodup) (hM:∀ a,a∈U↔a∈ns.take i) (hz:U.length<=i) (ha:ns[i]?=some a):∃ V:List Fc,putD (kvs U) a.enc (.bool true)=kvs V/\V.Nodup/\(∀ b,b∈V↔b∈ns.take (i+1))/\V.length<=i+1:=by
 by_cases h:a∈U
 ·refine ⟨U,AQ h,hU,fun b=>?_,by omega⟩;rw [<- take_snoc ha,Ja,hM b];constructor
  ·exact .inl
  ·rintro (z | z)
   ·exact z
   ·have:b=a:=by simpa using z
    rw [this];exact (hM a).mp h
 ·refine ⟨U++[a],zO h,Jg.mpr ⟨hU,by simp,fun x hx y hy e=>?_⟩,fun b=>?_,by rw [Ic];show _+1<=_;omega⟩
  ·have:y=a:=by simpa using hy
   exact h (this▸e▸hx)
  ·rw [<- take_snoc ha,Ja,Ja,hM b]
theorem ua {ns L:List Fc} {Q:PR->List PyData->Prop} (hl:ns.length<=410) (hL:Srt L) (hm:∀ a,a∈L↔a∈ns) (q:Q (.frs (.list (L.map Fc.enc))) []):WF bz [.list (ns.map Fc.enc)] Q:=by
 refine gJ rfl ?_;unfold bC;walk_at "pp";refine (.inl (yY rfl (nE (fun i e=>∃ U:List Fc,U.Nodup/\(∀ a,a∈U↔a∈ns.take i)/\U.length<=i/\zX [some (.dat (.list (ns.map Fc.enc))),some (.own (.dict (kvs U))),none] e) ⟨[],.nil,fun a=>by simp,Iv _,by walk_at "L"⟩ ?_ ?_)))
 ·rintro i d e hd ⟨U,hU,hM,hz,_⟩;walk_at "l";rw [IJ] at hd;obtain ⟨a,ha,rfl⟩:=Je.mp hd;have hi:i < ns.length:=(Ie.mp ha).1;walk_at "f";walk_at "pp";refine xm (v:=.bool true) (k:=a.enc) (kvs:=kvs U) rfl rfl (tX a) (by rw [Ig];show _ < 2 ^ 24;omega) ?_;obtain ⟨V,eV,h1,h2,h3⟩:=uL hU hM hz ha;rw [eV];exact ⟨V,h1,h2,h3,by walk_at "L"⟩
 ·rintro e ⟨U,hU,hM,hz,_⟩;walk_at "l";rw [Ig,JV] at hM;rw [Ig] at hz;walk_at "pp";refine sG (S:=fyS) (kvs:=kvs U) (ks:=U.map Fc.key) rfl (by rw [iQ];exact jW U) (by rw [Ig];omega) (jy hU) ?_;intro r hr;rw [iQ] at hr;rw [show r=L.map Fc.enc from hr.trans (uy hU hL fun a=>(hm a).trans (hM a).symm)];walk_at "pp";exact q
theorem rd {ds:List PyData} {Q:PR->List PyData->Prop} (q:Q (.dat (.bool (ds.all cJ))) []):WF cK [.list ds] Q:=by
 refine gJ rfl ?_;unfold cL;walk_at "pp";refine (.inl (yY rfl (fJ (fun j ys ec=>ys=((ds.take j).map cJ).map .bool/\ec=[]) ⟨rfl,rfl⟩ ?_ ?_)))
 ·rintro j d ys ec hd ⟨rfl,rfl⟩;refine je ?_;walk_at "pp";refine aw (ds:=[d]) (is:=[]) rfl rfl (kC ⟨rfl,?_⟩);walk_at "pp";refine ⟨?_,rfl⟩;rw [<- take_snoc hd,Jl,Jl];rfl
 ·rintro ys ec ⟨rfl,rfl⟩;rw [JV];walk_at "n";walk_at "pp";refine w_all (bs:=ds.map cJ) rfl ?_;rw [show (ds.map cJ).all id=ds.all cJ by rw [List.all_map];rfl];walk_at "pp";exact q
theorem kQ {ns L:List Fc} {Q:PR->List PyData->Prop} (hs:∀ a∈ns,a.sm) (hl:ns.length<=410) (hL:Srt L) (hm:∀ a,a∈L↔a∈ns) (q:Q (.dat (if 400 < L.length then .none else .tuple (L.map Fc.enc))) []):WF bg [.list (ns.map Fc.enc)] Q:=by
 refine gJ rfl ?_;unfold cw;walk_at "pp";refine aw (ds:=[.list (ns.map Fc.enc)]) (is:=[]) rfl rfl (rd ⟨rfl,?_⟩);rw [show (ns.map Fc.enc).all cJ=true by rw [List.all_map,J5];exact fun a ha=>oZ (hs a ha)];walk_at "pp";refine aw (ds:=[.list (ns.map Fc.enc)]) (is:=[]) rfl rfl (ua hl hL hm ⟨rfl,?_⟩);walk_at "pp";by_cases c:400 < L.length
 ·rw [Ip c] at q;refine vy (IP (by rw [Ig];omega)) ?_;walk_at "pp";exact q
 ·rw [Im c] at q;refine vH (IU (by rw [Ig];omega)) ?_;walk_at "pp";exact q
theorem zz {ds:List PyData} {x:PyData} {Q:PR->List PyData->Prop} (hx:x∈ds) (hf:cJ x=false) (q:Q (.dat .none) []):WF bg [.list ds] Q:=by
 refine gJ rfl ?_;unfold cw;walk_at "pp";refine aw (ds:=[.list ds]) (is:=[]) rfl rfl (rd ⟨rfl,?_⟩);rw [show ds.all cJ=false from List.all_eq_false.mpr ⟨x,hx,by rw [hf];decide⟩];walk_at "pp";exact q
theorem uw {ns L:List Fc} {Q:PR->List PyData->Prop} (hl:ns.length<=410) (hL:Srt L) (hm:∀ a,a∈L↔a∈ns) (q:Q (.frs (.list (L.map Fc.enc))) []):WF bz [.tuple (ns.map Fc.enc)] Q:=by
 refine gJ rfl ?_;unfold bC;walk_at "pp";refine (.inr ⟨_,rfl,(nE (fun i e=>∃ U:List Fc,U.Nodup/\(∀ a,a∈U↔a∈ns.take i)/\U.length<=i/\zX [some (.dat (.tuple (ns.map Fc.enc))),some (.own (.dict (kvs U))),none] e) ⟨[],.nil,fun a=>by simp,Iv _,by walk_at "L"⟩ ?_ ?_)⟩)
 ·rintro i d e hd ⟨U,hU,hM,hz,_⟩;walk_at "l";rw [IJ] at hd;obtain ⟨a,ha,rfl⟩:=Je.mp hd;have hi:i < ns.length:=(Ie.mp ha).1;walk_at "f";walk_at "pp";refine xm (v:=.bool true) (k:=a.enc) (kvs:=kvs U) rfl rfl (tX a) (by rw [Ig];show _ < 2 ^ 24;omega) ?_;obtain ⟨V,eV,h1,h2,h3⟩:=uL hU hM hz ha;rw [eV];exact ⟨V,h1,h2,h3,by walk_at "L"⟩
 ·rintro e ⟨U,hU,hM,hz,_⟩;walk_at "l";rw [Ig,JV] at hM;rw [Ig] at hz;walk_at "pp";refine sG (S:=fyS) (kvs:=kvs U) (ks:=U.map Fc.key) rfl (by rw [iQ];exact jW U) (by rw [Ig];omega) (jy hU) ?_;intro r hr;rw [iQ] at hr;rw [show r=L.map Fc.enc from hr.trans (uy hU hL fun a=>(hm a).trans (hM a).symm)];walk_at "pp";exact q
theorem tP {ds:List PyData} {Q:PR->List PyData->Prop} (q:Q (.dat (.bool (ds.all cJ))) []):WF cK [.tuple ds] Q:=by
 refine gJ rfl ?_;unfold cL;walk_at "pp";refine (.inr ⟨_,rfl,(fJ (fun j ys ec=>ys=((ds.take j).map cJ).map .bool/\ec=[]) ⟨rfl,rfl⟩ ?_ ?_)⟩)
 ·rintro j d ys ec hd ⟨rfl,rfl⟩;refine je ?_;walk_at "pp";refine aw (ds:=[d]) (is:=[]) rfl rfl (kC ⟨rfl,?_⟩);walk_at "pp";refine ⟨?_,rfl⟩;rw [<- take_snoc hd,Jl,Jl];rfl
 ·rintro ys ec ⟨rfl,rfl⟩;rw [JV];walk_at "n";walk_at "pp";refine w_all (bs:=ds.map cJ) rfl ?_;rw [show (ds.map cJ).all id=ds.all cJ by rw [List.all_map];rfl];walk_at "pp";exact q
theorem yW {ns L:List Fc} {Q:PR->List PyData->Prop} (hs:∀ a∈ns,a.sm) (hl:ns.length<=410) (hL:Srt L) (hm:∀ a,a∈L↔a∈ns) (q:Q (.dat (if 400 < L.length then .none else .tuple (L.map Fc.enc))) []):WF bg [.tuple (ns.map Fc.enc)] Q:=by
 refine gJ rfl ?_;unfold cw;walk_at "pp";refine aw (ds:=[.tuple (ns.map Fc.enc)]) (is:=[]) rfl rfl (tP ⟨rfl,?_⟩);rw [show (ns.map Fc.enc).all cJ=true by rw [List.all_map,J5];exact fun a ha=>oZ (hs a ha)];walk_at "pp";refine aw (ds:=[.tuple (ns.map Fc.enc)]) (is:=[]) rfl rfl (uw hl hL hm ⟨rfl,?_⟩);walk_at "pp";by_cases c:400 < L.length
 ·rw [Ip c] at q;refine vy (IP (by rw [Ig];omega)) ?_;walk_at "pp";exact q
 ·rw [Im c] at q;refine vH (IU (by rw [Ig];omega)) ?_;walk_at "pp";exact q
theorem yR {ds:List PyData} {x:PyData} {Q:PR->List PyData->Prop} (hx:x∈ds) (hf:cJ x=false) (q:Q (.dat .none) []):WF bg [.tuple ds] Q:=by
 refine gJ rfl ?_;unfold cw;walk_at "pp";refine aw (ds:=[.tuple ds]) (is:=[]) rfl rfl (tP ⟨rfl,?_⟩);rw [show ds.all cJ=false from List.all_eq_false.mpr ⟨x,hx,by rw [hf];decide⟩];walk_at "pp";exact q
theorem AX {d:PyData} {Q:PR->List PyData->Prop} (h1:isL d=false) (h2:isT d=false) (q:Q (.dat .none) []):WF bg [d] Q:=by
 refine gJ rfl ?_;unfold cw;cases d with
 | list ds=>cases h1
 | tuple ds=>cases h2
 | _ =>
  walk_at "pp";exact q
def Bad (d:PyData):Prop:=(isL d=false/\isT d=false)\/∃ ds x,(d=.list ds\/d=.tuple ds)/\x∈ds/\cJ x=false
theorem zP {d:PyData} {Q:PR->List PyData->Prop} (h:Bad d) (q:Q (.dat .none) []):WF bg [d] Q:=by
 rcases h with ⟨h1,h2⟩ | ⟨ds,x,rfl | rfl,hx,hf⟩
 ·exact AX h1 h2 q
 ·exact zz hx hf q
 ·exact yR hx hf q
theorem nB {d:PyData} {Q:PR->List PyData->Prop} (h:WF bg [d] fun pr outs=>pr=.dat .none/\outs=[]) (q:Q (.dat (.bool true)) []):WF de [d] Q:=by
 refine gJ rfl ?_;unfold gF;walk_at "pp";obtain ⟨pr,outs,e,rfl,rfl⟩:=h;refine aw (ds:=[d]) (is:=[]) rfl rfl ⟨_,_,e,rfl,?_⟩;walk_at "pp";exact q
abbrev GD:List PyData:=[.str "", .str "abcdefghi", .str "Ab", .str "a b", .str "a1", .none,.int 5,.bool true,.tuple [.str "a"],.list [.str "a"]]
abbrev ends:List PyData:=[.str "", .str "abcdefghi", .str "Ab", .int (10 ^ 30),.int (-(10 ^ 30)),.bool true,.none,.tuple [.str "A"],.tuple [.str "a", .str "b"],.list [.str "a"],.tuple []]
theorem AG:∀ d∈GD,nu d 1=false:=by
 intro d h;simp only [Iz,JY,KR] at h;rcases h with rfl | rfl | rfl | rfl | rfl | rfl | rfl | rfl | rfl | rfl <;> decide +kernel
theorem Cj:∀ d∈ends,kO d=false:=by
 intro d h;simp only [Iz,JY,KR] at h;rcases h with rfl | rfl | rfl | rfl | rfl | rfl | rfl | rfl | rfl | rfl | rfl <;> decide +kernel
theorem pY {a b c:PyData}:cJ (.tuple [a,b,c])=(nu a 1&&(nu b 1&&kO c)):=rfl
theorem A7 {cs:List Int} {B:Nat} {pn:PyData} {Q:PR->List PyData->Prop} (hP:cz cs B pn) (hb:B < 2 ^ 58) (q:∀ (d:PyData) pn',cz cs (B+3) pn'->cJ d=false->Q (.dat d) [pn']):WF tY [pn] Q:=by
 refine gJ rfl ?_;unfold ue;walk_at "d";intro w1 pn1 hP1 w10 w11;walk_at "n";walk_at "pp";obtain ⟨d1,hd1,ed1⟩:=atV (xs:=GD) w10 w11;refine rZ rfl ed1 ?_;have n1:=AG d1 hd1;clear ed1 hd1;walk_at "d";intro w2 pn2 hP2 w20 w21;walk_at "n";walk_at "pp";obtain ⟨d2,hd2,ed2⟩:=atV (xs:=ends) w20 w21;refine rZ rfl ed2 ?_;have n2:=Cj d2 hd2;clear ed2 hd2;walk_at "pp";refine yQ (cs:=cs) (m:=15) (i:=0) (hi:=rfl) hP2 (by omega) (by decide) (by decide) ?_;intro w3 pn3 hP3 w30 w31;walk_at "n";walk_at "pp";obtain ⟨d3,hd3,ed3⟩:=atV (xs:=([.tuple [d1,.str "b", .int 1],.tuple [.str "a", d1,.int 1],.tuple [.str "a", .str "b", d2],.tuple [.str "a", .str "b"],.tuple [.str "a", .str "b", .int 1,.int 1],.list [.str "a", .str "b", .int 1],.tuple [],.none,.int 7,.str "a b 1", .dict [],.tuple [.str "a", .tuple [.str "b"],.int 1],.tuple [.tuple [.str "a", .str "b", .int 1]],.list [.tuple [.str "a", .str "b", .int 1]],.bool false]:List PyData)) w30 w31;refine rZ rfl ed3 ?_;clear ed3;walk_at "pp";refine q d3 pn3 (hP3.mono (by omega)) ?_;simp only [Iz,JY,KR] at hd3;have n3:nu (.tuple [.str "b"]) 1=false:=rfl;rcases hd3 with rfl | rfl | rfl | rfl | rfl | rfl | rfl | rfl | rfl | rfl | rfl | rfl | rfl | rfl | rfl
 ·rw [pY,n1,Bool.false_and]
 ·rw [pY,n1,Bool.false_and,Bool.and_false]
 ·rw [pY,n2,Bool.and_false,Bool.and_false]
 all_goals first | rfl | (rw [pY,n3,Bool.false_and,Bool.and_false])
theorem xt {xs:List PyData} {a b:Option Int}:(L2.cutD xs a b).length<=xs.length:=by
 unfold L2.cutD;simp only [Jh,JD];omega
theorem mem_mid {α:Type} {xs ys:List α} {x:α}:x∈xs++[x]++ys:=IL _ (Ij _ (Iq.mpr rfl))
theorem ub {cs:List Int} {B:Nat} {pn:PyData} {fs:List Fc} {Q:PR->List PyData->Prop} (hP:cz cs B pn) (hb:B < 2 ^ 57) (hl:fs.length<=12) (q:∀ (d:PyData) pn',cz cs (B+10) pn'->Bad d->Q (.dat d) [pn']):WF jb [pn,.list (fs.map Fc.enc)] Q:=by
 refine gJ rfl ?_;unfold i7;walk_at "d";intro w1 pn1 hP1 w10 w11;walk_at "n";walk_at "pp";refine m8 (fun c1=>?_) (fun c1=>?_)
 ·walk_at "d";intro w2 pn2 hP2 w20 w21;walk_at "n";walk_at "pp";obtain ⟨d,hd,ed⟩:=atV (xs:=([.none,.int 5,.str "a b 1", .dict [],.bool true,.list [.list (fs.map Fc.enc)],.list [.list (fs.map Fc.enc),.list (fs.map Fc.enc)],.tuple [.list (fs.map Fc.enc)]]:List PyData)) w20 w21;refine rZ rfl ed ?_;clear ed;walk_at "pp";refine q d pn2 (hP2.mono (by omega)) ?_;simp only [Iz,JY,KR] at hd;rcases hd with rfl | rfl | rfl | rfl | rfl | rfl | rfl | rfl
  ·exact .inl ⟨rfl,rfl⟩
  ·exact .inl ⟨rfl,rfl⟩
  ·exact .inl ⟨rfl,rfl⟩
  ·exact .inl ⟨rfl,rfl⟩
  ·exact .inl ⟨rfl,rfl⟩
  ·exact .inr ⟨_,.list (fs.map Fc.enc),.inl rfl,Ik,rfl⟩
  ·exact .inr ⟨_,.list (fs.map Fc.enc),.inl rfl,Ik,rfl⟩
  ·exact .inr ⟨_,.list (fs.map Fc.enc),.inr rfl,Ik,rfl⟩
 have l1:(0:Int) < ((fs.map Fc.enc).length:Nat)+1:=by omega
 have l2:(((fs.map Fc.enc).length:Nat):Int)+1 < 2 ^ 200:=by rw [Ig];omega
 walk_at "pp";refine yQ (cs:=cs) (m:=(((fs.map Fc.enc).length:Nat):Int)+1) (i:=0) (hi:=rfl) hP1 (by omega) l1 l2 ?_;intro w2 pn2 hP2 w20 w21;walk_at "n";walk_at "pp";refine aw (ds:=[pn2]) (is:=[0]) rfl rfl (A7 hP2 (by omega) fun d pn3 hP3 hd=>⟨rfl,?_⟩);have z1:=xt (xs:=fs.map Fc.enc) (a:=none) (b:=some w2);rw [Ig] at z1;generalize L2.cutD (fs.map Fc.enc) none (some w2)=X at z1;walk_at "n";walk_at "pp";refine uJ rfl (by show _+1<=2 ^ 24;omega) ?_;walk_at "d";intro w4 pn4 hP4 w40 w41;walk_at "n";walk_at "pp";have z2:=xt (xs:=fs.map Fc.enc) (a:=some (w2+w4)) (b:=none);rw [Ig] at z2;generalize L2.cutD (fs.map Fc.enc) (some (w2+w4)) none=Y at z2;refine uJ rfl (by rw [Ic];show _+1+_<=2 ^ 24;omega) ?_;have mm:d∈X++[d]++Y:=mem_mid;generalize X++[d]++Y=Z at mm;walk_at "d";intro w5 pn5 hP5 w50 w51;walk_at "n";walk_at "pp";have:w5=0\/w5=1:=by omega
 rcases this with rfl | rfl
 ·refine rZ rfl (d:=.list Z) rfl ?_;walk_at "pp";exact q _ pn5 (hP5.mono (by omega)) (.inr ⟨Z,d,.inl rfl,mm,hd⟩)
 ·refine rZ rfl (d:=.tuple Z) rfl ?_;walk_at "pp";exact q _ pn5 (hP5.mono (by omega)) (.inr ⟨Z,d,.inr rfl,mm,hd⟩)
theorem lB (a:Fc):∀ {L:List Fc},Srt L->L.filter (fun b=>iT b a)++L.filter (fun b=>!iT b a)=L
 | [],_=>rfl
 | x :: r,h=>by
  obtain ⟨h1,h2⟩:=JB.mp h;by_cases hx:iT x a=true
  ·rw [List.filter_cons_of_pos (p:=fun b=>iT b a) hx,List.filter_cons_of_neg (by simp [hx]),KY,lB a h2]
  ·have hx:iT x a=false:=by simpa using hx
   have hr:r.filter (fun b=>iT b a)=[]:=by
    rw [List.filter_eq_nil_iff];intro y hy hya;rw [Dj (h1 y hy) hya] at hx;cases hx
   have hq:r.filter (fun b=>!iT b a)=r:=by
    have:=lB a h2;rw [hr] at this;exact this
   rw [List.filter_cons_of_neg (by simp [hx]),List.filter_cons_of_pos (by simp [hx]),hr,hq];rfl
theorem yo {F G:List Fc} {a:Fc} (h:Srt (F++G)) (h1:∀ f∈F,iT f a=true) (h2:∀ g∈G,iT a g=true):Srt (F++a :: G):=by
 obtain ⟨p1,p2,p3⟩:=ID.mp h;refine ID.mpr ⟨p1,JB.mpr ⟨h2,p2⟩,fun f hf g hg=>?_⟩;rcases Iz.mp hg with rfl | hg
 ·exact h1 f hf
 ·exact p3 f hf g hg
theorem rM:∀ gs:List Fc,∃ L:List Fc,Srt L/\∀ a,a∈L↔a∈gs
 | []=>⟨[],.nil,fun _=>Iff.rfl⟩
 | a :: gs=>by
  obtain ⟨L,hL,hm⟩:=rM gs;by_cases h:a∈L
  ·exact ⟨L,hL,fun b=>by
    rw [Iz,<-hm b]
    exact ⟨.inr,fun z=>z.elim (fun e=>e▸h) id⟩⟩
  ·have eL:=lB a hL;have h1:∀ f∈L.filter (fun b=>iT b a),iT f a=true:=fun f hf=>(List.mem_filter.mp hf).2;have h2:∀ g∈L.filter (fun b=>!iT b a),iT a g=true:=fun g hg=>by
    obtain ⟨z1,z2⟩:=List.mem_filter.mp hg;rw [Kd] at z2;cases e:iT a g with
    | true=>rfl
    | false=>exact absurd (x9 e z2▸z1) h
   generalize L.filter (fun b=>iT b a)=F at eL h1;generalize L.filter (fun b=>!iT b a)=G at eL h2;subst eL;refine ⟨F++a :: G,yo hL h1 h2,fun b=>?_⟩;rw [Iz,<-hm b,Ja,Ja,Iz];exact ⟨fun z=>z.elim (fun z=>.inr (.inl z)) fun z=>z.elim .inl fun z=>.inr (.inr z),fun z=>z.elim (fun z=>.inr (.inl z)) fun z=>z.elim .inl fun z=>.inr (.inr z)⟩
theorem vT (xs:List Fc):kH (.tuple (xs.map Fc.enc))=true:=by
 refine ye ?_ (IY (jv (k:=3) fun d hd=>?_) (by omega))
 ·simp only [noD];exact oU.mpr fun d hd=>by
   obtain ⟨x,_,rfl⟩:=Jn.mp hd;exact vI x
 ·obtain ⟨x,_,rfl⟩:=Jn.mp hd;exact o7 x
theorem Hv {ns:List Fc} (hs:∀ a∈ns,a.sm) (hl:ns.length<=400):∃ L:List Fc,Srt L/\(∀ a,a∈L↔a∈ns)/\L.length<=400:=by
 obtain ⟨L,hL,hm⟩:=rM ns;exact ⟨L,hL,hm,IY ((jd hL).length_le_of_subset fun a ha=>(hm a).mp ha) hl⟩
theorem vo {ns:List Int} (hl:ns.length<=63):WF xP [.list (ns.map .int)] fun pr outs=>pr=.dat (.bool true)/\outs=[]:=by
 refine gJ rfl ?_;unfold uE;walk_at "pp";refine aw rfl rfl (Bb ⟨rfl,?_⟩);have hP:cz ns 0 (zH ns 0 0):=⟨0,0,rfl,by decide,by decide,by decide⟩;generalize zH ns 0 0=pn at hP;walk_at "n";walk_at "d";intro w1 pn1 hP1 w10 w11;walk_at "n";walk_at "pp";refine ⟨⟨by omega,by omega⟩,?_⟩;refine fJ (fun j ys ec=>∃ (fs:List Fc) (pn':PyData),ys=fs.map Fc.enc/\fs.length=j/\(∀ f∈fs,f.sm)/\cz ns (1+50*j) pn'/\ec=[.ino pn']) ⟨[],pn1,rfl,rfl,fun a h=>by simp at h,hP1.mono (by omega),rfl⟩ ?_ ?_
 ·rintro j d ys ec hd ⟨fs,pn',rfl,hfl,hfs,hP',rfl⟩;obtain ⟨rfl,hj⟩:=lg hd;refine je ?_;walk_at "pp";refine aw (ds:=[pn']) (is:=[1]) rfl rfl (yz hP' (by omega) fun f pn2 hP2 sf=>⟨rfl,?_⟩);walk_at "pp";exact ⟨fs++[f],pn2,by rw [Jl];rfl,by rw [Ic,hfl];rfl,pT hfs sf,hP2.mono (by omega),rfl⟩
 rintro ys ec ⟨fs,pn2,rfl,hfl,hfs,hP2,rfl⟩;rw [oA] at hfl hP2;have hf12:fs.length<=12:=by omega
 replace hP2:cz ns 1000 pn2:=hP2.mono (by omega);walk_at "n";walk_at "pz";show WS gds _ ([.dat (.list (ns.map .int)),.own pn2,.dat (.list (fs.map Fc.enc)),.un,.un,.un,.un]:En) _;with_reducible refine Bj fun N eN=>?_
 have rest:∀ (pn3:PyData) (a b:Sl),soft a->soft b->cz ns 2000 pn3->N [.dat (.list (ns.map .int)),.own pn3,.dat (.list (fs.map Fc.enc)),a,b,.un,.un]:=by
  intro pn3 a b sa sb hP3;obtain ⟨L,hL,hm,h4⟩:=Hv hfs (by omega);rw [eN];walk_at "pp";refine aw (ds:=[.list (fs.map Fc.enc)]) (is:=[]) rfl rfl (kQ hfs (by omega) hL hm ⟨rfl,?_⟩);rw [Im (Nat.not_lt.mpr h4)];walk_at "n";walk_at "pp";refine ⟨⟨by decide,by decide⟩,?_⟩;refine nE (fun i e=>∃ pn':PyData,cz ns (2000+20*i) pn'/\zX [some (.dat (.list (ns.map .int))),some (.own pn'),some (.dat (.list (fs.map Fc.enc))),none,none,some (.dat (.tuple (L.map Fc.enc))),none] e) ⟨pn3,hP3.mono (by omega),by walk_at "L"⟩ ?_ ?_
  ·rintro i d e hd ⟨pn',hP',_⟩;walk_at "l";obtain ⟨rfl,hi⟩:=lg hd;have hi:i < 8:=hi;walk_at "f";walk_at "pp";refine aw (ds:=[pn',.list (fs.map Fc.enc)]) (is:=[1]) rfl rfl (ub hP' (by omega) hf12 fun d pn4 hP4 hbad=>⟨rfl,?_⟩);walk_at "n";walk_at "pp";refine aw (ds:=[d]) (is:=[]) rfl rfl (nB (zP hbad ⟨rfl,rfl⟩) ⟨rfl,?_⟩);walk_at "pp";refine aw (ds:=[.list (fs.map Fc.enc)]) (is:=[]) rfl rfl (kQ hfs (by omega) hL hm ⟨rfl,?_⟩);rw [Im (Nat.not_lt.mpr h4)];walk_at "ps";refine DI rfl (vT L) ?_;walk_at "pp";exact ⟨pn4,hP4.mono (by omega),by walk_at "L"⟩
  ·rintro e ⟨pn',hP',_⟩;walk_at "l";walk_at "pp";exact ⟨rfl,rfl⟩
 walk_at "d";intro w3 pn3 hP3 w30 w31;walk_at "n";walk_at "pp";refine m8 (fun c1=>?_) (fun c1=>?_)
 ·walk_at "pp";refine aw (ds:=[pn3]) (is:=[1]) rfl rfl (yB hP3 (by omega) fun gs pn4 hP4 g0 g1 hgs hgn=>⟨rfl,?_⟩);walk_at "n";walk_at "d";intro w5 pn5 hP5 w50 w51;walk_at "n";walk_at "pp";refine ⟨⟨by omega,by omega⟩,?_⟩;have l1:(0:Int) < ((gs.map Fc.enc).length:Nat):=by rw [Ig];omega
  have l2:(((gs.map Fc.enc).length:Nat):Int) < 2 ^ 200:=by rw [Ig];omega
  refine fJ (fun j ys ec=>∃ (xs:List Fc) (pn':PyData),ys=xs.map Fc.enc/\xs.length=j/\(∀ x∈xs,x∈gs)/\cz ns (1500+j) pn'/\ec=[.dat (.list (gs.map Fc.enc)),.ino pn']) ⟨[],pn5,rfl,rfl,fun a h=>by simp at h,hP5.mono (by omega),rfl⟩ ?_ ?_
  ·rintro j d ys ec hd ⟨xs,pn',rfl,hx,hs2,hP',rfl⟩;obtain ⟨rfl,hj⟩:=lg hd;refine je ?_;walk_at "d";intro w6 pn6 hP6 w60 w61;walk_at "n";walk_at "pp";obtain ⟨d3,hd3,ed3⟩:=atV (xs:=gs.map Fc.enc) w60 w61;obtain ⟨f,hf3,rfl⟩:=Jn.mp hd3;refine rZ rfl ed3 ?_;walk_at "pp";exact ⟨xs++[f],pn6,by rw [Jl];rfl,by rw [Ic,hx];rfl,pT hs2 hf3,hP6.mono (by omega),rfl⟩
  rintro ys ec ⟨xs,pn6,rfl,hx,hs2,hP6,rfl⟩;rw [oA] at hx hP6;replace hP6:cz ns 2000 pn6:=hP6.mono (by omega);walk_at "n";walk_at "pp";refine uJ rfl (by rw [Ig,Ig];show _<=2 ^ 24;omega) ?_;rw [<- Jl];have hsx:∀ a∈gs++xs,a.sm:=fun a ha=>hgs a ((Ja.mp ha).elim id (hs2 a));have hlx:(gs++xs).length<=410:=by rw [Ic];omega
  obtain ⟨L,hL,hm⟩:=rM (gs++xs);have hmg:∀ a,a∈L↔a∈gs:=fun a=>(hm a).trans ⟨fun ha=>(Ja.mp ha).elim id (hs2 a),fun ha=>IL _ ha⟩;have elen:L.length=gs.length:=((List.perm_ext_iff_of_nodup (jd hL) hgn).mpr hmg).length_eq;generalize gs++xs=ys at hsx hlx hm;walk_at "pp";refine m8 (fun c2=>?_) (fun c2=>?_)
  ·have c2:(400:Int) < (((gs.map Fc.enc).length:Nat):Int):=Jm c2;rw [Ig] at c2;have c3:400 < L.length:=by omega
   walk_at "pp";refine aw (ds:=[.list (ys.map Fc.enc)]) (is:=[]) rfl rfl (nB (kQ hsx hlx hL hm ⟨by rw [Ip c3],rfl⟩) ⟨rfl,?_⟩);walk_at "pp";refine aw (ds:=[.tuple (ys.map Fc.enc)]) (is:=[]) rfl rfl (nB (yW hsx hlx hL hm ⟨by rw [Ip c3],rfl⟩) ⟨rfl,?_⟩);walk_at "pp";exact rest pn6 _ _ uC uC hP6
  ·have c2:¬(400:Int) < (((gs.map Fc.enc).length:Nat):Int):=J7 c2;rw [Ig] at c2;have c3:¬400 < L.length:=by omega
   walk_at "pp";refine aw (ds:=[.list (ys.map Fc.enc)]) (is:=[]) rfl rfl (kQ hsx hlx hL hm ⟨rfl,?_⟩);rw [Im c3];walk_at "pp";refine vH (by simp [PyData.eqv,elen]) ?_;walk_at "pp";exact rest pn6 _ _ uC uC hP6
 ·walk_at "pp";exact rest pn3 _ _ yt yt (hP3.mono (by omega))
end K07
end
namespace PySem.W.Fast
def tw5233278386870282581:=()
def tw9159678793874562703:=()
def tw7383274233520509965:=()
def tw11916028048200401109:=()
def tw15192519763204333050:=()
def tw17005484190730148852:=()
def tw11359898048320630670:=()
def tw11032736638725424635:=()
def tw8608415008327538012:=()
def tw11221244735674890439:=()
def tw6809967944767490536:=()
def tw2041628755632787527:=()
def tw17591103244924544114:=()
def tw6353645075379550093:=()
def tw1212729206983809470:=()
def tw8620106929012030542:=()
def tw12219955683200714482:=()
def tw18315661217000754571:=()
def tw5373040511913273010:=()
def tw7675766950516389141:=()
def tw1898331316878559948:=()
def tw11605124239307508048:=()
def tw17715148995482394365:=()
def tw3974875612271308018:=()
def tw15712439588244129103:=()
def tw5391527672670314000:=()
def tw12232664305035514008:=()
def tw4648034783354472251:=()
def tw8590740720483615112:=()
def tw5713925153612363658:=()
def tw10633839615018124783:=()
end PySem.W.Fast
open PySem PySem.W PyProof.Rows
set_option maxRecDepth 100000 in
set_option maxHeartbeats 0 in
theorem PySem.Challenge.cw_webshapes_k07_no_webs_holds : PySem.Challenge.rw_webshapes_k07_no_webs.Holds := by
  w_on; (refine holds_law L2.ws fun jX => ?_); k_head; (case hw => w_witness2)
  k_fill
  refine L2.vE (l := PySem.Challenge.rw_webshapes_k07_no_webs) (n := 63) (k := 9) (x := "_law_script") (CX := L2.CX0) (sp := K07.rC) rfl (by decide) rfl ⟨rfl, by decide, by decide, rfl⟩ (fun w h Y => PySem.W.kIn_of Y) ?F ?S ?C
  case F =>
    intro w mg fa h KX G hmg;have TT : ∃ t : K07.Adr, (∀ (s : Shared) (u : Value), BindsTo s t.nY ⟨[u], []⟩ [("_law_script", u)]) ∧ K07.Txt (L2.KOf KX) mg t := by
      dsimp only [L2.KOf];refine' K07.Cw KX G ?a0 ?l0 ?c0 ?k0 ?a1 ?l1 ?c1 ?k1 ?a2 ?l2 ?c2 ?k2 ?a3 ?l3 ?c3 ?k3 ?a4 ?l4 ?c4 ?k4 ?a5 ?l5 ?c5 ?k5 ?a6 ?l6 ?c6 ?k6 ?a7 ?l7 ?c7 ?k7 ?a8 ?l8 ?c8 ?k8 ?a9 ?l9 ?c9 ?k9 ?a10 ?l10 ?c10 ?k10 ?a11 ?l11 ?c11 ?k11 ?a12 ?l12 ?c12 ?k12 ?a13 ?l13 ?c13 ?k13 ?a14 ?l14 ?c14 ?k14 ?a15 ?l15 ?c15 ?k15 ?a16 ?l16 ?c16 ?k16 ?a17 ?l17 ?c17 ?k17 ?a18 ?l18 ?c18 ?k18 ?a19 ?l19 ?c19 ?k19 ?a20 ?l20 ?c20 ?k20 ?a21 ?l21 ?c21 ?k21 ?z_ValueError ?z_abs ?z_all ?z_bool ?z_int ?z_isinstance ?z_len ?z_list ?z_range ?z_sorted ?z_str ?z_tuple ?g_GREATEST_NUMBER ?g_MOST_FACTS ?g_MOST_LETTERS ?m_NoWeb ?e_NoWeb ?cl_NoWeb ?ga_NoWeb ?gg_NoWeb ?m_ShapeError ?e_ShapeError ?cl_ShapeError ?ga_ShapeError ?gg_ShapeError ?mr_NoWeb_ShapeError ?mv_NoWeb ?n2_Missing ?l2_Missing ?n2_NoFact ?l2_NoFact ?n2_NoNode ?l2_NoNode ?n2_NoText ?l2_NoText ?n2_Twice ?l2_Twice ?k2_NoWeb_Missing ?k2_NoWeb_NoFact ?k2_NoWeb_NoNode ?k2_NoWeb_NoText ?k2_NoWeb_Twice
      (case a0 => k_is)
      (case l0 => k_is)
      (case c0 => k_is)
      (case k0 => k_is)
      (case a1 => k_is)
      (case l1 => k_is)
      (case c1 => k_is)
      (case k1 => k_is)
      (case a2 => k_is)
      (case l2 => k_is)
      (case c2 => k_is)
      (case k2 => k_is)
      (case a3 => k_is)
      (case l3 => k_is)
      (case c3 => k_is)
      (case k3 => k_is)
      (case a4 => k_is)
      (case l4 => k_is)
      (case c4 => k_is)
      (case k4 => k_is)
      (case a5 => k_is)
      (case l5 => k_is)
      (case c5 => k_is)
      (case k5 => k_is)
      (case a6 => k_is)
      (case l6 => k_is)
      (case c6 => k_is)
      (case k6 => k_is)
      (case a7 => k_is)
      (case l7 => k_is)
      (case c7 => k_is)
      (case k7 => k_is)
      (case a8 => k_is)
      (case l8 => k_is)
      (case c8 => k_is)
      (case k8 => k_is)
      (case a9 => k_is)
      (case l9 => k_is)
      (case c9 => k_is)
      (case k9 => k_is)
      (case a10 => k_is)
      (case l10 => k_is)
      (case c10 => k_is)
      (case k10 => k_is)
      (case a11 => k_is)
      (case l11 => k_is)
      (case c11 => k_is)
      (case k11 => k_is)
      (case a12 => k_is)
      (case l12 => k_is)
      (case c12 => k_is)
      (case k12 => k_is)
      (case a13 => k_is)
      (case l13 => k_is)
      (case c13 => k_is)
      (case k13 => k_is)
      (case a14 => k_is)
      (case l14 => k_is)
      (case c14 => k_is)
      (case k14 => k_is)
      (case a15 => k_is)
      (case l15 => k_is)
      (case c15 => k_is)
      (case k15 => k_is)
      (case a16 => k_is)
      (case l16 => k_is)
      (case c16 => k_is)
      (case k16 => k_is)
      (case a17 => k_is)
      (case l17 => k_is)
      (case c17 => k_is)
      (case k17 => k_is)
      (case a18 => k_is)
      (case l18 => k_is)
      (case c18 => k_is)
      (case k18 => k_is)
      (case a19 => k_is)
      (case l19 => k_is)
      (case c19 => k_is)
      (case k19 => k_is)
      (case a20 => k_is)
      (case l20 => k_is)
      (case c20 => k_is)
      (case k20 => k_is)
      (case a21 => k_is)
      (case l21 => k_is)
      (case c21 => k_is)
      (case k21 => k_is)
      (case z_ValueError => k_is)
      (case z_abs => k_is)
      (case z_all => k_is)
      (case z_bool => k_is)
      (case z_int => k_is)
      (case z_isinstance => k_is)
      (case z_len => k_is)
      (case z_list => k_is)
      (case z_range => k_is)
      (case z_sorted => k_is)
      (case z_str => k_is)
      (case z_tuple => k_is)
      (case g_GREATEST_NUMBER => k_is)
      (case g_MOST_FACTS => k_is)
      (case g_MOST_LETTERS => k_is)
      (case m_NoWeb => k_is)
      (case e_NoWeb => k_exc)
      (case cl_NoWeb => k_is)
      (case ga_NoWeb => k_is)
      (case gg_NoWeb => k_is)
      (case m_ShapeError => k_is)
      (case e_ShapeError => k_exc)
      (case cl_ShapeError => k_is)
      (case ga_ShapeError => k_is)
      (case gg_ShapeError => k_is)
      (case mr_NoWeb_ShapeError => k_is)
      (case mv_NoWeb => k_is)
      (case n2_Missing => k_is)
      (case l2_Missing => k_is)
      (case n2_NoFact => k_is)
      (case l2_NoFact => k_is)
      (case n2_NoNode => k_is)
      (case l2_NoNode => k_is)
      (case n2_NoText => k_is)
      (case l2_NoText => k_is)
      (case n2_Twice => k_is)
      (case l2_Twice => k_is)
      (case k2_NoWeb_Missing => k_is)
      (case k2_NoWeb_NoFact => k_is)
      (case k2_NoWeb_NoNode => k_is)
      (case k2_NoWeb_NoText => k_is)
      (case k2_NoWeb_Twice => k_is)
    obtain ⟨t, hb, T⟩ := TT;have e : some (Value.ref fa) = some (Value.ref t.md) := hmg.symm.trans T.FK;have e' : fa = t.md := by injection e with e; injection e
    subst e';exact ⟨t.nY, hb, fun base _ _ => K07.BC T⟩
  case S => exact fun K H a ns hl _ hS => L2.Ba rfl hl hS (by obtain ⟨pr, outs, h, rfl, rfl⟩ := K07.vo hl; exact h)
  case C => exact fun _ _ _ _ z => z

