import PyProof.Rows.All
import Wide.All
import OpenK.AllK
import Wide.FinOn
import Lean
import PyProof.EqAt
import PyProof.EqKinds
import PyProof.TupleCall
import PyProof.ConsumeWalk
import PyProof.EqLayable
import PyProof.ReprRoads
import PyProof.StrWalks
import PyProof.SliceStr2
import PyProof.StrLawsIn
import PyProof.StrLawsRepr
import PyProof.SliceList
import PyProof.Rows.FStr
import PyProof.CallStr
import PyProof.Rows.SeqMore
import PyProof.ListStr
import PyProof.Claim2Refuses
import PyProof.Rows.SetFrom
import PyProof.Rows.StrMeet
import PyProof.WalksMore
import PyProof.StrCalls
import PyProof.ListMulRoad
import PyProof.MaxThree
import PyProof.Rows.SumAny
import PyProof.AutoSeq1
import PyProof.StrBlock2
import PyProof.ZipIter
import PyProof.Rows.ZipGen
import PyProof.Rows.CallKwBuiltin
import PyProof.Rows.SortRuns
import KE.KIsAll
import PyProof.DictTruth
import PySem.Challenge.RW_webshapes_k06_webs_made
set_option Elab.async false
set_option linter.all false
set_option maxRecDepth 100000
set_option maxHeartbeats 4000000
section
open PySem PySem.Spec PyProof.Rows PySem.W
theorem IH:type_of% @wpAny_bind:=@wpAny_bind
theorem II:type_of% @List.getElem?_eq_getElem:=@List.getElem?_eq_getElem
theorem IJ:type_of% @List.length_append:=@List.length_append
theorem IK:type_of% @List.length_map:=@List.length_map
theorem IL:type_of% @List.getElem?_eq_some_iff:=@List.getElem?_eq_some_iff
theorem IM:type_of% @List.getElem?_set_ne:=@List.getElem?_set_ne
theorem IP:type_of% @List.getElem?_append_right:=@List.getElem?_append_right
theorem IQ:type_of% @wpAny_pure:=@wpAny_pure
theorem IS:type_of% @List.mem_append_right:=@List.mem_append_right
theorem IU:type_of% @List.mem_cons_self:=@List.mem_cons_self
theorem IV:type_of% @if_neg:=@if_neg
theorem IW:type_of% @List.size_toArray:=@List.size_toArray
theorem IX:type_of% @if_pos:=@if_pos
theorem IY:type_of% @Nat.le_refl:=@Nat.le_refl
theorem IZ:type_of% @List.mem_singleton:=@List.mem_singleton
theorem Ja:type_of% @Heap.get?_push_of_some:=@Heap.get?_push_of_some
theorem Jb:type_of% @List.mem_cons_of_mem:=@List.mem_cons_of_mem
theorem Jc:type_of% @List.getElem?_set_self:=@List.getElem?_set_self
theorem Jd:type_of% @List.getElem?_map:=@List.getElem?_map
theorem Je:type_of% @List.getElem?_append_left:=@List.getElem?_append_left
theorem Jf:type_of% @Bool.false_ne_true:=@Bool.false_ne_true
theorem Jg:type_of% @wpS_pure:=@wpS_pure
theorem Jh:type_of% @List.pairwise_append:=@List.pairwise_append
theorem Ji:type_of% @Heap.lt_size:=@Heap.lt_size
theorem Jj:type_of% @wpS_bind:=@wpS_bind
theorem Jk:type_of% @List.length_cons:=@List.length_cons
theorem Jl:type_of% @List.append_assoc:=@List.append_assoc
theorem Jm:type_of% @Nat.lt_of_lt_of_le:=@Nat.lt_of_lt_of_le
theorem Jn:type_of% @List.mem_of_getElem?:=@List.mem_of_getElem?
theorem Jo:type_of% @List.mem_cons:=@List.mem_cons
theorem Jp:type_of% @Option.map_eq_some_iff:=@Option.map_eq_some_iff
theorem Jq:type_of% @List.mem_append_left:=@List.mem_append_left
theorem Jr:type_of% @decide_eq_true:=@decide_eq_true
theorem Js:type_of% @PySem.W.mg_of:=@PySem.W.mg_of
theorem Jt:type_of% @Heap.get?_push_size:=@Heap.get?_push_size
theorem Ju:type_of% @Nat.le_trans:=@Nat.le_trans
theorem Jv:type_of% @List.eq_nil_of_length_eq_zero:=@List.eq_nil_of_length_eq_zero
theorem Jw:type_of% @List.getD_eq_getElem?_getD:=@List.getD_eq_getElem?_getD
theorem Jx:type_of% @List.mem_append:=@List.mem_append
theorem Jy:type_of% @List.length_set:=@List.length_set
theorem Jz:type_of% @decide_eq_false:=@decide_eq_false
theorem JB:type_of% @List.mem_map:=@List.mem_map
theorem JD:type_of% @beq_iff_eq:=@beq_iff_eq
theorem JH:type_of% @wpAny_mono:=@wpAny_mono
theorem JJ:type_of% @Nat.ne_of_lt:=@Nat.ne_of_lt
theorem JK:type_of% @List.map_cons:=@List.map_cons
theorem JL:type_of% @Bool.and_eq_true:=@Bool.and_eq_true
theorem JM:type_of% @of_decide_eq_true:=@of_decide_eq_true
theorem JN:type_of% @List.length_take:=@List.length_take
theorem JQ:type_of% @List.nodup_append:=@List.nodup_append
theorem JR:type_of% @wpAny_truthy_bool:=@wpAny_truthy_bool
theorem JU:type_of% @Array.getElem?_eq_getElem:=@Array.getElem?_eq_getElem
theorem JV:type_of% @List.append_nil:=@List.append_nil
theorem JX:type_of% @beq_self_eq_true:=@beq_self_eq_true
theorem JY:type_of% @Nat.lt_irrefl:=@Nat.lt_irrefl
theorem JZ:type_of% @Nat.zero_le:=@Nat.zero_le
theorem J0:type_of% @PySem.W.mg_none_of:=@PySem.W.mg_none_of
theorem J1:type_of% @Option.some.inj:=@Option.some.inj
theorem J2:type_of% @List.nodup_cons:=@List.nodup_cons
theorem J3:type_of% @wpS_forRange:=@wpS_forRange
theorem J4:type_of% @List.mem_reverse:=@List.mem_reverse
theorem J5:type_of% @List.length_range:=@List.length_range
theorem J6:type_of% @List.map_append:=@List.map_append
theorem J7:type_of% @List.pairwise_iff_getElem:=@List.pairwise_iff_getElem
theorem J8:type_of% @List.drop_eq_getElem_cons:=@List.drop_eq_getElem_cons
theorem J9:type_of% @List.pairwise_cons:=@List.pairwise_cons
theorem Ka:type_of% @wpAny_holding:=@wpAny_holding
theorem Kb:type_of% @sizeLine_eq:=@sizeLine_eq
theorem Kc:type_of% @wpAny_newObj_type:=@wpAny_newObj_type
theorem Kd:type_of% @wpAny_rule:=@wpAny_rule
theorem Ke:type_of% @List.length_nil:=@List.length_nil
theorem Kf:type_of% @wpS_mono:=@wpS_mono
theorem Kg:type_of% @Array.length_toList:=@Array.length_toList
theorem Kh:type_of% @List.take_of_length_le:=@List.take_of_length_le
theorem Ki:type_of% @List.set_set:=@List.set_set
theorem Kj:type_of% @Heap.get?_update_other:=@Heap.get?_update_other
theorem Kk:type_of% @List.length_drop:=@List.length_drop
theorem Kl:type_of% @List.pairwise_reverse:=@List.pairwise_reverse
theorem Km:type_of% @wpAny_dictEpoch:=@wpAny_dictEpoch
theorem Ko:type_of% @List.length_reverse:=@List.length_reverse
theorem Kp:type_of% @wpAny_call_entry:=@wpAny_call_entry
theorem Kq:type_of% @wpAny_callSpecial?_slot:=@wpAny_callSpecial?_slot
theorem Kr:type_of% @Nat.add_sub_cancel_left:=@Nat.add_sub_cancel_left
theorem Ks:type_of% @List.Perm.refl:=@List.Perm.refl
theorem Kt:type_of% @List.mem_iff_getElem?:=@List.mem_iff_getElem?
theorem Ku:type_of% @List.length_singleton:=@List.length_singleton
theorem Kv:type_of% @List.Perm.append_left:=@List.Perm.append_left
theorem Kw:type_of% @bind_congr:=@bind_congr
theorem Kx:type_of% @Nat.lt_succ_self:=@Nat.lt_succ_self
theorem Kz:type_of% @List.take_length:=@List.take_length
theorem KA:type_of% @List.map_map:=@List.map_map
theorem KC:type_of% @Classical.byContradiction:=@Classical.byContradiction
theorem KD:type_of% @PySem.mem_of_lookup:=@PySem.mem_of_lookup
theorem KG:type_of% @if_false:=@if_false
theorem KH:type_of% @Bool.true_and:=@Bool.true_and
theorem KI:type_of% @wpAny_passesOwn:=@wpAny_passesOwn
theorem KJ:type_of% @PySem.W.kia_tup:=@PySem.W.kia_tup
theorem KL:type_of% @PySem.W.kia_one:=@PySem.W.kia_one
theorem KN:type_of% @wpS_modify:=@wpS_modify
theorem KO:type_of% @of_decide_eq_false:=@of_decide_eq_false
theorem KP:type_of% @Bool.false_eq_true:=@Bool.false_eq_true
theorem KQ:type_of% @wpAny_dictEntries:=@wpAny_dictEntries
theorem KR:type_of% @List.reverse_perm:=@List.reverse_perm
theorem KU:type_of% @List.getElem?_toArray:=@List.getElem?_toArray
theorem KW:type_of% @Heap.get?_update_self:=@Heap.get?_update_self
theorem KY:type_of% @wpAny_forIn_list:=@wpAny_forIn_list
theorem KZ:type_of% @List.all_eq_true:=@List.all_eq_true
theorem K0:type_of% @wpAny_typeNameOfWhole_keyiter:=@wpAny_typeNameOfWhole_keyiter
theorem K1:type_of% @PassesOwn.never:=@PassesOwn.never
theorem K2:type_of% @F.slot_dict_keyiterator_next:=@F.slot_dict_keyiterator_next
theorem K3:type_of% @Nat.sub_self:=@Nat.sub_self
theorem K4:type_of% @Array.getD_eq_getD_getElem?:=@Array.getD_eq_getD_getElem?
theorem K5:type_of% @List.drop_zero:=@List.drop_zero
theorem K6:type_of% @List.drop_left:=@List.drop_left
theorem K7:type_of% @Array.perm_iff_toList_perm:=@Array.perm_iff_toList_perm
theorem K8:type_of% @if_true:=@if_true
theorem K9:type_of% @decide_eq_true_eq:=@decide_eq_true_eq
theorem La:type_of% @Bool.not_eq_true':=@Bool.not_eq_true'
theorem Lb:type_of% @wpAny_typeNameOf_keyiter:=@wpAny_typeNameOf_keyiter
theorem Lc:type_of% @Paired.length:=@Paired.length
theorem Ld:type_of% @List.any_cons:=@List.any_cons
theorem Le:type_of% @List.lookup_cons:=@List.lookup_cons
theorem Lf:type_of% @List.getElem_mem:=@List.getElem_mem
theorem Lg:type_of% @List.getElem?_cons_succ:=@List.getElem?_cons_succ
theorem Lh:type_of% @List.cons_append:=@List.cons_append
theorem Li:type_of% @List.any_eq_true:=@List.any_eq_true
theorem Lj:type_of% @wpS_get:=@wpS_get
theorem Ll:type_of% @Nat.le_of_lt:=@Nat.le_of_lt
theorem Lm:type_of% @wpAny_specialOf:=@wpAny_specialOf
theorem Ln:type_of% @Option.map_some:=@Option.map_some
theorem Lo:type_of% @List.length_replicate:=@List.length_replicate
theorem Lp:type_of% @List.cons_lt_cons_iff:=@List.cons_lt_cons_iff
end
section
namespace L2
abbrev Fg:=PySem.W.Frag
set_option maxRecDepth 100000 in
set_option maxHeartbeats 0 in
theorem ws:PySem.W.OpenLaw.wellSaid PySem.Challenge.rw_webshapes_k06_webs_made=true:=by decide +kernel
end L2
end
section
namespace L2
open PySem PySem.Spec PyProof.Rows
abbrev Key:=Sum Int Str
def n8:Key->Value->Bool
 | .inl k,v=>Value.isInt k v
 | .inr x,v=>Value.isStrOf x v
def Ha (w:World):Key->Int
 | .inl k=>hashInt k
 | .inr x=>hashStr w x
theorem ba:∀ {k:Key} {v:Value},n8 k v=true->(∃ i t,k=Sum.inl i/\v=Value.int i t)\/(∃ x t,k=Sum.inr x/\v=Value.str x t)
 | .inl i,v,h=>by
  obtain ⟨t,e⟩:=Value.isInt_shape (k:=i) (v:=v) h;exact .inl ⟨i,t,rfl,e⟩
 | .inr x,v,h=>by
  obtain ⟨t,e⟩:=Value.isStrOf_shape (x:=x) (v:=v) h;exact .inr ⟨x,t,rfl,e⟩
theorem u0 (i:Int) (t:Tok):n8 (.inl i) (.int i t)=true:=by simp [n8,Value.isInt]
theorem tP (x:Str) (t:Tok):n8 (.inr x) (.str x t)=true:=by simp [n8,Value.isStrOf]
theorem Bh (a b:Int):decide ((Sum.inl a:Key)=Sum.inl b)=(a==b):=by
 by_cases e:a=b
 ·subst e;simp
 ·have h:¬(Sum.inl a:Key)=Sum.inl b:=fun q=>e (Sum.inl.inj q);rw [Jz h];exact (beq_eq_false_iff_ne.mpr e).symm
theorem A6 (a b:Str):decide ((Sum.inr a:Key)=Sum.inr b)=decide (a=b):=by
 by_cases e:a=b
 ·subst e;simp
 ·have h:¬(Sum.inr a:Key)=Sum.inr b:=fun q=>e (Sum.inr.inj q);rw [Jz h,Jz e]
theorem AN (a:Int) (b:Str):decide ((Sum.inl a:Key)=Sum.inr b)=false:=Jz (fun q=>nomatch q)
theorem Aj (a:Str) (b:Int):decide ((Sum.inr a:Key)=Sum.inl b)=false:=Jz (fun q=>nomatch q)
def bS (prog:Program) (w:World):PySem.KeyKind prog w Key where
 is:=n8
 hash:=Ha w
 inj:=fun v a b ha hb=>by
  rcases ba ha with ⟨i,t,rfl,rfl⟩ | ⟨x,t,rfl,rfl⟩
  ·rcases ba hb with ⟨j,u,rfl,e⟩ | ⟨y,u,rfl,e⟩
   ·injection e with e1 _;rw [e1]
   ·exact nomatch e
  ·rcases ba hb with ⟨j,u,rfl,e⟩ | ⟨y,u,rfl,e⟩
   ·exact nomatch e
   ·injection e with e1 _;rw [e1]
 byValue:=fun k v h=>by
  rcases ba h with ⟨i,t,rfl,rfl⟩ | ⟨x,t,rfl,rfl⟩ <;> rfl
 pyHash:=fun hv h=>by
  rcases ba hv with ⟨i,t,rfl,rfl⟩ | ⟨x,t,rfl,rfl⟩
  ·exact wpAny_pyHash_int h
  ·exact wpAny_pyHash_str h
 eqBool:=fun hu hv h=>by
  rcases ba hu with ⟨i,t,rfl,rfl⟩ | ⟨x,t,rfl,rfl⟩
  ·rcases ba hv with ⟨j,u,rfl,rfl⟩ | ⟨y,u,rfl,rfl⟩
   ·rw [Bh] at h;exact wpAny_eqBool_int h
   ·rw [AN] at h;exact SeqAt.EqAt.int_str i t y u _ _ _ _ h
  ·rcases ba hv with ⟨j,u,rfl,rfl⟩ | ⟨y,u,rfl,rfl⟩
   ·rw [Aj] at h;exact SeqAt.EqAt.str_int x t j u _ _ _ _ h
   ·rw [A6] at h;exact wpAny_eqBool_str h
 «strs»:=fun k x t v h=>by
  rcases ba h with ⟨i,u,rfl,e⟩ | ⟨y,u,rfl,e⟩
  ·exact nomatch e
  ·injection e with e1 _;subst e1;cases v <;> rfl
theorem ot (prog:Program) (w:World) (i:Int) (t:Tok):(bS prog w).is (.inl i) (.int i t)=true:=u0 i t
theorem oK (prog:Program) (w:World) (x:Str) (t:Tok):(bS prog w).is (.inr x) (.str x t)=true:=tP x t
end L2
namespace L2
open PySem PySem.Spec PyProof.Rows
inductive V where
 | non | bl (b:Bool) | int (i:Int) | str (x:Str) | byt (b:Array UInt8) | flt (b:UInt64) | ref (a:Addr) | ty (n:String)
 deriving DecidableEq
def RelV:V->Value->Prop
 | .non,u=>u=Value.none
 | .bl b,u=>u=Value.bool b
 | .int i,u=>∃ t,u=Value.int i t
 | .str x,u=>∃ t,u=Value.str x t
 | .byt b,u=>∃ t,u=Value.bytes b t
 | .flt b,u=>∃ t,u=Value.float b t
 | .ref a,u=>u=Value.ref a
 | .ty n,u=>u=Value.type n
abbrev Vals:List V->List Value->Prop:=Paired RelV
theorem Vals.length {xs:List V} {us:List Value} (r:Vals xs us):xs.length=us.length:=Lc r
theorem Vals.get:∀ {xs:List V} {us:List Value} {i:Nat} {x:V},Vals xs us->xs[i]?=some x->∃ u,us[i]?=some u/\RelV x u
 | _,_,_,_,.nil,e=>by simp at e
 | _,_,0,_,.cons r _,e=>by simp at e;subst e;exact ⟨_,rfl,r⟩
 | _,_,i+1,x,.cons _ t,e=>by
  obtain ⟨u,h1,h2⟩:=Vals.get (i:=i) (x:=x) t (by simpa using e);exact ⟨u,by simpa using h1,h2⟩
theorem Vals.append:∀ {xs ys:List V} {us ws:List Value},Vals xs us->Vals ys ws->Vals (xs++ys) (us++ws)
 | _,_,_,_,.nil,s=>s
 | _,_,_,_,.cons r t,s=>.cons r (Vals.append t s)
theorem Vals.take:∀ {xs:List V} {us:List Value} (n:Nat),Vals xs us->Vals (xs.take n) (us.take n)
 | _,_,0,_=>.nil
 | _,_,_+1,.nil=>.nil
 | _,_,n+1,.cons r t=>.cons r (Vals.take n t)
theorem Vals.drop:∀ {xs:List V} {us:List Value} (n:Nat),Vals xs us->Vals (xs.drop n) (us.drop n)
 | _,_,0,r=>r
 | _,_,_+1,.nil=>.nil
 | _,_,n+1,.cons _ t=>Vals.drop n t
def FP:Option V->Option Value->Prop
 | some v,some u=>RelV v u
 | none,none=>True
 | _,_=>False
def KV {κ:Type}:List (κ×V)->List (κ×Value)->Prop:=Paired fun (p:κ×V) (q:κ×Value)=>p.1=q.1/\RelV p.2 q.2
def kV:Key->V
 | .inl i=>.int i
 | .inr x=>.str x
mutual
def cJ (w:World):PyData->Int
 | .int i=>hashInt i
 | .str x=>hashStr w x
 | .tuple ds=>reduceHash (Builtin.Tuple.tupleHashOf (df w ds))
 | _=>0
def df (w:World):List PyData->List Int
 | []=>[]
 | d :: ds=>cJ w d :: df w ds
end
def yB (w:World) (x:PyData×V×V) (e:DictEntry):Prop:=e.hash=cJ w x.1/\RelV x.2.1 e.key/\RelV x.2.2 e.val
inductive HO where
 /-- a list -/
 | lst (xs:List V)
 /-- a tuple (never changes) -/
 | tup (xs:List V)
 /-- a dict whose keys are ints and texts;one whose keys are tuples of ints and texts (the empty one is both) -/
 | dK (kvs:List (Key×V)) | dT (kvs:List (List Key×V))
 /-- a dict by any hashable data: its epoch;the keys as data and as values,what they hold -/
 | dD (ep:Nat) (xs:List (PyData×V×V))
 /-- a set of ints: its members,its size -/
 | set (S:Int->Bool) (n:Nat)
 /-- an instance of the class at C,its dict at dx,its attributes -/
 | ins (C dx:Addr) (fs:List (Str×V))
 /-- the dict of the instance at x -/
 | own (x:Addr)
 /-- the dict of an exception -/
 | xd (fs:List (Str×V))
 /-- a bound method,f of x -/
 | met (f x:Addr)
 /-- a range object lo,lo+1,.. below hi -/
 | rng (lo hi:Int)
 /-- a bO that is known to the object (the script;a dict while a loop walks it): read,never written while it is so -/
 | frz (o:Obj) (u:HO)
 /-- a code object's table -/
 | tbl (ps:Array Value)
 /-- any other bO,by what is true of its one object (a def of one's own: HC a S n:=HO.ext fun h=>..) -/
 | ext (φ:Heap->Prop)
abbrev Hp:=Addr->Option HO
def upd (H:Hp) (a:Addr) (o:HO):Hp:=fun b=>if b=a then some o else H b
theorem aF {H:Hp} {a:Addr} {o:HO}:upd H a o a=some o:=by unfold upd;rw [IX rfl]
theorem ay {H:Hp} {a b:Addr} {o:HO} (h:b≠a):upd H a o b=H b:=by unfold upd;rw [IV h]
theorem bh {H:Hp} {a b:Addr} {o:HO} (h:H a=some o) (h':H b=none):a≠b:=by
 intro e;subst e;rw [h] at h';cases h'
section
variable (P:Program) (w:World)
def b6 (H:Hp) (h:Heap) (a:Addr):HO->Prop
 | .lst xs=>xs.length<=sizeLine/\∃ (its:List Value) (n:Nat),Vals xs its/\h.get? a=some { cls:=.type "list", data:=.seq its.toArray n }
 | .tup xs=>xs.length<=sizeLine/\∃ its:List Value,Vals xs its/\IsTup h a its.toArray
 | .dK kvs=>kvs.length<=sizeLine/\(a==sysModules)=false/\∃ vs,KV kvs vs/\h.DictOf (bS P w) a vs
 | .dT kvs=>kvs.length<=sizeLine/\(a==sysModules)=false/\∃ xs:List (List Key×Addr×Value),
   Paired (fun (p:List Key×V) (q:List Key×Addr×Value)=>p.1=q.1/\H q.2.1=some (.tup (p.1.map kV))/\RelV p.2 q.2.2) kvs xs /\
   ∃ o es ep,h.get? a=some o/\o.ExactDict/\o.data=.dict es ep/\es.toList=xs.map (entryOfKey (tupleKind (bS P w)))/\(xs.map (·.1)).Nodup
 | .dD ep xs=>xs.length<=sizeLine/\(a==sysModules)=false/\(xs.map (·.1)).Nodup/\∃ o es,h.get? a=some o/\o.ExactDict/\o.data=.dict es ep/\Paired (yB w) xs es.toList
 | .set S n=>h.SetOf (intKind P w) a S n
 | .ins C dx fs=>H dx=some (.own a)/\fs.length<=1000/\dx≠a/\h.get? a=some (PySem.W.instObj C dx) /\
   ∃ mA,h.Ns1 dx mA/\(∀ f,FP (fs.lookup f) (mA f))/\PySem.Within mA (fs.map (·.1))
 | .own _=>∃ o,h.get? a=some o
 | .xd fs=>∃ mA,h.Ns1 a mA/\∀ f,FP (fs.lookup f) (mA f)
 | .rng lo hi=>∃ t u v,h.get? a=some { cls:=.type "range", data:=.fields #[.int lo t,.int hi u,.int 1 v] }
 | .frz o u=>h.get? a=some o/\b6 H h a u
 | .tbl ps=>h.get? a=some { cls:=.none,data:=.fields ps }
 | .met f x=>h.get? a=some (PySem.W.methodObj (.ref f) (.ref x))
 | .ext φ=>φ h/\(∃ o,h.get? a=some o)/\∀ h1 h2:Heap,φ h1->(∀ o,h1.get? a=some o->h2.get? a=some o)->φ h2
def HOk (H:Hp) (h:Heap):Prop:=∀ a o,H a=some o->b6 P w H h a o
end
section
variable {P:Program} {w:World} {H H':Hp} {h h':Heap} {a:Addr} {o:HO}
theorem b6.lt (x:b6 P w H h a o):a < h.objs.size:=by
 cases o with
 | lst xs=>obtain ⟨_,_,_,_,e⟩:=x;exact Ji e
 | tup xs=>obtain ⟨_,_,_,p⟩:=x;exact p.lt
 | dK kvs=>obtain ⟨_,_,_,_,o,_,_,e,_⟩:=x;exact Ji e
 | dT kvs=>obtain ⟨_,_,_,_,o,_,_,e,_⟩:=x;exact Ji e
 | dD ep xs=>obtain ⟨_,_,_,o,_,e,_⟩:=x;exact Ji e
 | set S n=>obtain ⟨o,_,_,_,e,_⟩:=x;exact Ji e
 | ins C dx fs=>obtain ⟨_,_,_,e,_⟩:=x;exact Ji e
 | own y=>obtain ⟨_,e⟩:=x;exact Ji e
 | xd fs=>obtain ⟨_,⟨_,_,_,e,_⟩,_⟩:=x;exact Ji e
 | rng lo hi=>obtain ⟨_,_,_,e⟩:=x;exact Ji e
 | frz ob u=>obtain ⟨e,_⟩:=x;exact Ji e
 | tbl ps=>exact Ji (show h.get? a=some _ from x)
 | met f y=>exact Ji (show h.get? a=some _ from x)
 | ext φ=>obtain ⟨_,⟨_,e⟩,_⟩:=x;exact Ji e
theorem Paired.G3 {α β:Type} {F G:α->β->Prop}:∀ {l₁:List α} {l₂:List β},Paired F l₁ l₂->(∀ a b,F a b->G a b)->Paired G l₁ l₂
 | _,_,.nil,_=>.nil
 | _,_,.cons r t,f=>.cons (f _ _ r) (Paired.G3 t f)
theorem b6.nE (x:b6 P w H h a o) (k:∀ b u,(b=a\/H b=some (.own a))->h.get? b=some u->h'.get? b=some u)
  (ho:∀ b,H b=some (.own a)->H' b=some (.own a)) (ht:∀ b xs,H b=some (.tup xs)->H' b=some (.tup xs)):b6 P w H' h' a o:=by
 induction o with
 | lst xs=>obtain ⟨z,its,n,r,e⟩:=x;exact ⟨z,its,n,r,k _ _ (.inl rfl) e⟩
 | tup xs=>obtain ⟨z,its,r,ob,e,c⟩:=x;exact ⟨z,its,r,ob,k _ _ (.inl rfl) e,c⟩
 | dK kvs=>obtain ⟨z,y,vs,r,ob,es,ep,e,c⟩:=x;exact ⟨z,y,vs,r,ob,es,ep,k _ _ (.inl rfl) e,c⟩
 | dT kvs =>
  obtain ⟨z,y,xs,r,ob,es,ep,e,c⟩:=x;exact ⟨z,y,xs,Paired.G3 r fun p q z=>⟨z.1,ht _ _ z.2.1,z.2.2⟩,ob,es,ep,k _ _ (.inl rfl) e,c⟩
 | dD ep xs=>obtain ⟨z,y,nd,ob,es,e,c⟩:=x;exact ⟨z,y,nd,ob,es,k _ _ (.inl rfl) e,c⟩
 | set S n=>obtain ⟨ob,es,ep,t,e,c⟩:=x;exact ⟨ob,es,ep,t,k _ _ (.inl rfl) e,c⟩
 | ins C dx fs =>
  obtain ⟨d,z,ne,e,mA,⟨od,es,ep,e2,c⟩,r⟩:=x;exact ⟨ho _ d,z,ne,k _ _ (.inl rfl) e,mA,⟨od,es,ep,k _ _ (.inr d) e2,c⟩,r⟩
 | own y=>obtain ⟨ob,e⟩:=x;exact ⟨ob,k _ _ (.inl rfl) e⟩
 | xd fs=>obtain ⟨mA,⟨od,es,ep,e,c⟩,r⟩:=x;exact ⟨mA,⟨od,es,ep,k _ _ (.inl rfl) e,c⟩,r⟩
 | rng lo hi=>obtain ⟨t,u,v,e⟩:=x;exact ⟨t,u,v,k _ _ (.inl rfl) e⟩
 | frz ob u ih=>obtain ⟨e,q⟩:=x;exact ⟨k _ _ (.inl rfl) e,ih q⟩
 | tbl ps =>
  have e:h.get? a=some { cls:=.none,data:=.fields ps }:=x;show h'.get? a=some { cls:=.none,data:=.fields ps };exact k a _ (.inl rfl) e
 | met f y =>
  have e:h.get? a=some (PySem.W.methodObj (.ref f) (.ref y)):=x;show h'.get? a=some (PySem.W.methodObj (.ref f) (.ref y));exact k a _ (.inl rfl) e
 | ext φ=>obtain ⟨p,⟨o,e⟩,st⟩:=x;exact ⟨st _ _ p fun o q=>k _ _ (.inl rfl) q,⟨o,k _ _ (.inl rfl) e⟩,st⟩
theorem HOk.lt (x:HOk P w H h) (e:H a=some o):a < h.objs.size:=(x a o e).lt
theorem HOk.fresh (x:HOk P w H h) (e:h.objs.size<=a):H a=none:=by
 cases q:H a with
 | none=>rfl
 | some u=>exact absurd (Jm (x.lt q) e) (JY _)
theorem HOk.kept (x:HOk P w H h) (k:∀ b u,h.get? b=some u->h'.get? b=some u):HOk P w H h':=fun a o e =>
 (x a o e).nE (fun b u _ q=>k b u q) (fun _ q=>q) fun _ _ q=>q
theorem HOk.laid (x:HOk P w H h) (k:∀ b u,h.get? b=some u->h'.get? b=some u) (hp:h.objs.size<=a) (new:b6 P w (upd H a o) h' a o):HOk P w (upd H a o) h':=fun b u e=>by
 have hn:=x.fresh hp;by_cases hb:b=a
 ·subst hb;rw [aF] at e;cases e;exact new
 ·rw [ay hb] at e;exact (x b u e).nE (fun c v _ q=>k c v q) (fun c q=>by rw [ay (bh q hn)];exact q) fun c xs q=>by rw [ay (bh q hn)];exact q
end
def Rd (H:Hp) (a:Addr) (u:HO):Prop:=H a=some u\/∃ o,H a=some (.frz o u)
theorem Rd.ok {P:Program} {w:World} {H:Hp} {h:Heap} {a:Addr} {u:HO} (r:Rd H a u) (x:HOk P w H h):b6 P w H h a u:=by
 rcases r with r | ⟨o,r⟩
 ·exact x a u r
 ·obtain ⟨_,q⟩:=x a _ r;exact q
def Mut:Option HO->Prop
 | some (.lst _)=>True
 | some (.dK _)=>True
 | some (.dT _)=>True
 | some (.dD _ _)=>True
 | some (.set _ _)=>True
 | some (.ins _ _ _)=>True
 | some (.ext _)=>True
 | _=>False
section
variable {P:Program} {w:World} {H:Hp} {h h':Heap} {x e:Addr} {o':HO}
theorem HOk.write (ok:HOk P w H h) (mu:Mut (H x)) (he:e=x\/H e=some (.own x)) (k:∀ b u,b≠e->h.get? b=some u->h'.get? b=some u) (heo:∃ u,h'.get? e=some u)
  (new:b6 P w (upd H x o') h' x o'):HOk P w (upd H x o') h':=fun b u q=>by
 have nown:∀ c y,H c=some (.own y)->c≠x:=fun c y r z=>by subst z;rw [r] at mu;exact mu
 have ntup:∀ c xs,H c=some (.tup xs)->c≠x:=fun c xs r z=>by subst z;rw [r] at mu;exact mu
 by_cases hb:b=x
 ·subst hb;rw [aF] at q;cases q;exact new
 ·rw [ay hb] at q;by_cases hbe:b=e
  ·have q':H b=some (.own x):=by
    rcases he with z | z
    ·exact absurd (hbe.trans z) hb
    ·rw [hbe];exact z
   rw [q] at q';cases q';obtain ⟨v,hv⟩:=heo;exact ⟨v,by rw [hbe];exact hv⟩
  ·refine (ok b u q).nE (fun c v hc r=>k c v ?_ r) (fun c r=>by rw [ay (nown c b r)];exact r) fun c xs r=>by rw [ay (ntup c xs r)];exact r
   rcases hc with rfl | hc
   ·exact hbe
   ·rintro rfl;rcases he with z | z
    ·exact nown c b hc z
    ·rw [hc] at z;cases z;exact hb rfl
end
structure Un (fs ex:List Addr) (H H':Hp) (h h':Heap):Prop where
 keep:∀ b o,h.get? b=some o->H b=none->b ∉ fs->b ∉ ex->h'.get? b=some o
 slot:∀ b o,h.get? b=some o->H b=none->b∈fs->b ∉ ex->∃ sl,h'.get? b=some { o with slots:=sl }
 free:∀ b o,h.get? b=some o->H b=none->b ∉ ex->H' b=none
 there:∀ b o,h.get? b=some o->b ∉ ex->∃ o',h'.get? b=some o'
 vt:∀ b xs,H b=some (.tup xs)->H' b=some (.tup xs)
 su:∀ b o u,H b=some (.frz o u)->H' b=some (.frz o u)
 vU:∀ b ps,H b=some (.tbl ps)->∃ more,H' b=some (.tbl (ps++more))
section
variable {fs fs' ex ex':List Addr} {H H1 H2:Hp} {h h1 h2 h':Heap} {a x e:Addr} {o:HO}
theorem Un.any (u:Un fs ex H H1 h h1) {b:Addr} {ob:Obj} (q:h.get? b=some ob) (n:H b=none) (hx:b ∉ ex):∃ sl,h1.get? b=some { ob with slots:=sl }:=by
 by_cases hb:b∈fs
 ·exact u.slot b ob q n hb hx
 ·exact ⟨ob.slots,u.keep b ob q n hb hx⟩
theorem Un.kept (k:∀ b u,h.get? b=some u->h'.get? b=some u):Un fs ex H H h h' :=
 ⟨fun b ob q _ _ _=>k b ob q,fun b ob q _ _ _=>⟨ob.slots,k b ob q⟩,fun _ _ _ n _=>n,fun b ob q _=>⟨ob,k b ob q⟩,fun _ _ q=>q,fun _ _ _ q=>q,fun _ ps q=>⟨#[],by rw [q];simp⟩⟩
theorem Un.refl:Un fs ex H H h h:=Un.kept fun _ _ q=>q
theorem Un.laid (k:∀ b u,h.get? b=some u->h'.get? b=some u) (hp:h.objs.size<=a) (hn:H a=none):Un fs ex H (upd H a o) h h' where
 keep:=fun b u q _ _ _=>k b u q
 slot:=fun b u q _ _ _=>⟨u.slots,k b u q⟩
 free:=fun b u q n _=>by rw [ay (JJ (Jm (Ji q) hp))];exact n
 there:=fun b u q _=>⟨u,k b u q⟩
 vt:=fun b xs q=>by rw [ay (bh q hn)];exact q
 su:=fun b u xs q=>by rw [ay (bh q hn)];exact q
 vU:=fun b ps q=>⟨#[],by rw [ay (bh q hn),q];simp⟩
theorem Un.write (mu:Mut (H x)) (he:e=x\/H e=some (.own x)) (k:∀ b u,b≠e->h.get? b=some u->h'.get? b=some u) (heo:∃ u,h'.get? e=some u):Un fs ex H (upd H x o) h h':=by
 have hx:∀ b,H b=none->b≠x:=fun b n z=>by subst z;rw [n] at mu;exact mu
 have hb:∀ b,H b=none->b≠e:=fun b n z=>by
  subst z;rcases he with r | r
  ·exact hx b n r
  ·rw [n] at r;cases r
 have hm:∀ b u,H b=some u->¬Mut (some u)->b≠x:=fun b u q nm z=>by subst z;rw [q] at mu;exact nm mu
 refine ⟨fun b u q n _ _=>k b u (hb b n) q,fun b u q n _ _=>⟨u.slots,k b u (hb b n) q⟩,fun b u q n _=>by rw [ay (hx b n)];exact n,fun b u q _=>?_,
  fun b xs q=>by rw [ay (hm b _ q fun z=>z)];exact q,fun b u xs q=>by rw [ay (hm b _ q fun z=>z)];exact q,fun b ps q=>⟨#[],by rw [ay (hm b _ q fun z=>z),q];simp⟩⟩
 by_cases hbe:b=e
 ·subst hbe;exact heo
 ·exact ⟨u,k b u hbe q⟩
end
def trk (h:Heap) (H:Hp):List Addr:=(List.range h.objs.size).filter fun a=>(H a).isSome
def vF (h:Heap) (H:Hp):Heap:=PySem.W.hideAll h (trk h H)
theorem uR (h:Heap) (H:Hp):(vF h H).objs.size=h.objs.size:=PySem.W.hideAll_size _ _
theorem wM {h:Heap} {H:Hp} {b:Addr} {o:Obj} (e:h.get? b=some o) (n:H b=none):(vF h H).get? b=some o :=
 PySem.W.hideAll_get _ e fun hm=>by
  have q:(H b).isSome=true:=(List.mem_filter.mp hm).2;rw [n] at q;simp at q
theorem yR {h:Heap} {H:Hp} {b:Addr} {o:Obj} (e:(vF h H).get? b=some o):h.get? b=some o/\H b=none:=by
 have e':h.get? b=some o:=PySem.W.of_hideAll (trk h H) e;refine ⟨e',?_⟩;cases q:H b with
 | none=>rfl
 | some x =>
  have hm:b∈trk h H:=List.mem_filter.mpr ⟨List.mem_range.mpr (Ji e'),by simp [q]⟩;have z:(vF h H).get? b=none:=PySem.W.hideAll_none (trk h H) hm;rw [z] at e;cases e
def zK (g h:Heap) (L:Addr):List (Addr×Obj):=(List.range h.objs.size).filterMap fun a=>if a=L\/(g.get? a).isSome=true then none else (h.get? a).map fun o=>(a,o)
def rest (g h:Heap) (L d:Addr):List (Addr×Obj):=(zK g h L).filter fun p=>decide (p.1≠d)
end L2
namespace L2
open PySem PySem.Spec PyProof.Rows
structure Mod (K:Fg) (mg:Str->Option Value) (base:Heap):Prop where
 kin:K.In base
 glob:base.Ns mainGlobals mg
 blt:∃ mb,base.Ns builtinsNs mb/\∀ x:Str,x ≠ "__name__" -> mb x=bootBuiltins x
 nolimit:base.NoLimit
structure Cx where
 prog:Program
 w:World
 K:Fg
 mg:Str->Option Value
 base:Heap
 A:Around
 N:List Str
 s₀:Shared
 H₀:Hp
 env:Env
 outer:List Env
 stack:List Env
 ex:List Addr
 fn:Str->Bool
 calm:Bool
 pn:List (Addr×Obj)
 xe:Value->Shared->Prop
def frs (l:List Env):List Addr:=l.filterMap (·.frame)
abbrev Cx.fs (X:Cx):List Addr:=frs X.outer
def Vis (sc:Scope) (x:Str):Prop:=sc.names.lookup x=some .local\/sc.names.lookup x=some .cell\/sc.names.lookup x=some .free
def Loc (sc:Scope) (x:Str):Prop:=sc.names.lookup x=some .local\/sc.names.lookup x=some .cell
def Look (env:Env) (h:Heap) (m:Str->Option Value) (x:Str) (u:Value):Prop :=
 (env.kindOf x=some .local/\m x=some u)\/((env.kindOf x=some .cell\/env.kindOf x=some .free)/\∃ c,env.cells.lookup x=some c/\h.IsCell c (some u))
structure Cx.Ok (X:Cx):Prop where
 mod:Mod X.K X.mg X.base
 kind:X.env.scope.kind=.function
 glob:X.env.globals=mainGlobals
 blt:X.env.builtins=builtinsNs
 above:X.s₀.heap.objs.size<=X.env.locals
 inj:∀ x y c,X.env.cells.lookup x=some c->X.env.cells.lookup y=some c->x=y
 has:∀ x,(X.env.kindOf x=some .cell\/X.env.kindOf x=some .free)->∃ c,X.env.cells.lookup x=some c
 cab:∀ x c,X.fn x=true->X.env.cells.lookup x=some c->X.s₀.heap.objs.size<=c
 hd:X.calm=true->X.A.handled=none
 frames:X.A.frames=some X.stack
 stk:X.stack=X.outer\/(X.stack=X.env :: X.outer/\X.env.frame=some X.env.locals)
 exf:∀ b∈X.ex,b≠X.env.locals/\∀ x c,X.env.cells.lookup x=some c->c≠b
 bs:∀ b o,X.base.get? b=some o->X.s₀.heap.get? b=some o/\X.H₀ b=none
 bsz:X.base.objs.size<=X.s₀.heap.objs.size
 ze:∀ b o,X.base.get? b=some o->b ∉ X.ex
 Ag:∀ b∈X.ex,b ∉ X.fs
 qt:X.s₀.heap.FunFrames X.base X.outer
 frf:∀ b∈X.fs,X.H₀ b=none
structure Inv (X:Cx) (pins:List (Addr×Obj)) (σ:List (Option V)) (H:Hp) (s:Shared):Prop where
 ok:X.Ok
 os:s.os=X.s₀.os
 bare:AllBare s.gens
 base:Un X.fs X.ex X.H₀ H X.s₀.heap s.heap
 loc:∃ m,s.heap.Ns X.env.locals m/\∀ (i:Nat) (x:Str) (v:V),X.N[i]?=some x->σ[i]?=some (some v)->Vis X.env.scope x->∃ u,RelV v u/\Look X.env s.heap m x u
 cell:∀ x c,X.env.cells.lookup x=some c->∃ v,s.heap.IsCell c v
 free:H X.env.locals=none
 iI:∀ x c,X.env.cells.lookup x=some c->H c=none
 pin:∀ p∈X.pn++pins,s.heap.get? p.1=some p.2/\H p.1=none/\p.1≠X.env.locals/\p.1 ∉ X.fs/\∀ v,p.2.data≠.cell v
 hok:HOk X.prog X.w H s.heap
 len:σ.length=X.N.length
section
variable {X:Cx} {pins:List (Addr×Obj)} {σ:List (Option V)} {H H':Hp} {s:Shared} {h':Heap}
theorem Cx.Ok.Ht (ok:X.Ok) {b:Addr} {o:Obj} (e:X.base.get? b=some o):b ∉ X.fs:=fun hb=>by
 have:=(ok.qt.mem hb).1;rw [e] at this;cases this
theorem Inv.bs (I:Inv X pins σ H s):∀ b o,X.base.get? b=some o->s.heap.get? b=some o/\H b=none:=fun b o e =>
 ⟨I.base.keep b o (I.ok.bs b o e).1 (I.ok.bs b o e).2 (I.ok.Ht e) (I.ok.ze b o e),I.base.free b o (I.ok.bs b o e).1 (I.ok.bs b o e).2 (I.ok.ze b o e)⟩
theorem Inv.bk (I:Inv X pins σ H s):∀ b o,X.base.get? b=some o->s.heap.get? b=some o:=fun b o e=>(I.bs b o e).1
theorem Inv.mod (I:Inv X pins σ H s):Mod X.K X.mg X.base:=I.ok.mod
theorem Inv.kIn (I:Inv X pins σ H s):X.K.In s.heap:=I.ok.mod.kin.keeps I.bk
theorem Inv.lt (I:Inv X pins σ H s):X.env.locals < s.heap.objs.size:=let ⟨_,hn,_⟩:=I.loc;hn.lt
theorem Inv.sz (I:Inv X pins σ H s):X.s₀.heap.objs.size<=s.heap.objs.size:=Ju I.ok.above (Ll I.lt)
theorem Inv.BI (I:Inv X pins σ H s) {a:Addr} (h:s.heap.objs.size<=a):a ∉ X.fs:=fun hb=>by
 obtain ⟨_,o,ho,_⟩:=I.ok.qt.mem hb;exact absurd (Jm (Ji ho) (Ju I.sz h)) (JY _)
theorem Inv.cne (I:Inv X pins σ H s):∀ x c,X.env.cells.lookup x=some c->c≠X.env.locals:=fun x c e z=>by
 obtain ⟨v,o,ho,hd⟩:=I.cell x c e;obtain ⟨m,⟨o',es,ep,ho',hd',_⟩,_⟩:=I.loc;rw [z,ho'] at ho;cases ho;rw [hd'] at hd;cases hd
theorem Inv.qt (I:Inv X pins σ H s):s.heap.FunFrames X.base X.outer:=by
 have all:∀ (l:List Env),(∀ b∈frs l,b∈X.fs)->X.s₀.heap.FunFrames X.base l->s.heap.FunFrames X.base l:=by
  intro l;induction l with
  | nil=>intro _ _;trivial
  | cons env r ih =>
   intro hs hl;obtain ⟨hk,⟨L,o,hf,hn,ho,hd⟩,hr⟩:=hl;have hL:L∈X.fs:=hs L (by unfold frs;rw [List.filterMap_cons,hf];exact IU);obtain ⟨sl,e⟩:=I.base.slot L o ho (I.ok.frf L hL) hL fun z=>I.ok.Ag L z hL;exact ⟨hk,⟨L,_,hf,hn,e,hd⟩,ih (fun b hb=>hs b (by unfold frs;rw [List.filterMap_cons,hf];exact Jb _ hb)) hr⟩
 exact all X.outer (fun _ hb=>hb) I.ok.qt
theorem Inv.stack (I:Inv X pins σ H s):s.heap.FunFrames X.base X.stack:=by
 rcases I.ok.stk with e | ⟨e,hf⟩
 ·rw [e];exact I.qt
 ·rw [e];obtain ⟨m,hn,_⟩:=I.loc;refine .cons (by rw [I.ok.kind];decide) hf hn ?_ I.qt;exact Heap.get?_none_of_le (Ju I.ok.bsz I.ok.above)
theorem Inv.s8 (I:Inv X pins σ H s):∀ b∈frs X.stack,b∈X.env.locals :: X.fs:=fun b hb=>by
 rcases I.ok.stk with e | ⟨e,hf⟩
 ·rw [e] at hb;exact Jb _ hb
 ·rw [e] at hb;unfold frs at hb;rw [List.filterMap_cons,hf] at hb;exact hb
theorem Inv.rJ (I:Inv X pins σ H s):∀ b∈frs X.stack,H b=none:=fun b hb=>by
 rcases Jo.mp (I.s8 b hb) with e | hb
 ·rw [e];exact I.free
 ·obtain ⟨_,o,ho,_⟩:=I.ok.qt.mem hb;exact I.base.free b o ho (I.ok.frf b hb) fun z=>I.ok.Ag b z hb
theorem Inv.step {g':Array GenState} {t':Nat} {d':Drawn} {ch:List Addr} (I:Inv X pins σ H s)
  (hch:∀ b∈ch,(b∈X.ex\/X.s₀.heap.objs.size<=b)/\b≠X.env.locals/\(∀ x c,X.env.cells.lookup x=some c->c≠b)/\∀ p∈X.pn++pins,p.1≠b)
  (keep:∀ b o,b≠X.env.locals->b ∉ X.fs->b ∉ ch->s.heap.get? b=some o->H b=none->h'.get? b=some o)
  (slot:∀ b o,b≠X.env.locals->b∈X.fs->b ∉ ch->s.heap.get? b=some o->H b=none->∃ sl,h'.get? b=some { o with slots:=sl }) (free:∀ b o,b ∉ ch->s.heap.get? b=some o->H b=none->H' b=none)
  (there:∀ b o,b ∉ ch->s.heap.get? b=some o->∃ o',h'.get? b=some o')
  (vt:∀ b xs,H b=some (.tup xs)->H' b=some (.tup xs)) (su:∀ b o u,H b=some (.frz o u)->H' b=some (.frz o u)) (vU:∀ b ps,H b=some (.tbl ps)->∃ more,H' b=some (.tbl (ps++more)))
  (ns:∀ m,s.heap.Ns X.env.locals m->h'.Ns X.env.locals m) (hok:HOk X.prog X.w H' h') (hg:AllBare g') :
  Inv X pins σ H' { s with heap:=h',gens:=g',drawn:=d',toks:=t' }:=by
 have neL:∀ b o,X.s₀.heap.get? b=some o->b≠X.env.locals:=fun b o e=>JJ (Jm (Ji e) I.ok.above);have neC:∀ b o,X.s₀.heap.get? b=some o->b ∉ X.ex->b ∉ ch:=fun b o e hx hb=>by
  rcases (hch b hb).1 with z | z
  ·exact hx z
  ·exact absurd (Jm (Ji e) z) (JY _)
 have cellK:∀ x c,X.env.cells.lookup x=some c->∀ v,s.heap.IsCell c v->h'.IsCell c v:=fun x c e v ⟨o,ho,hd⟩=>by
  have nch:c ∉ ch:=fun z=>(hch c z).2.2.1 x c e rfl;by_cases hc:c∈X.fs
  ·obtain ⟨sl,q⟩:=slot c o (I.cne x c e) hc nch ho (I.iI x c e);exact ⟨_,q,hd⟩
  ·exact ⟨o,keep c o (I.cne x c e) hc nch ho (I.iI x c e),hd⟩
 refine ⟨I.ok,I.os,hg,⟨fun b o e n hb hx=>?_,fun b o e n hb hx=>?_,fun b o e n hx=>?_,fun b o e hx=>?_,fun b xs e=>vt b xs (I.base.vt b xs e),fun b o xs e=>su b o xs (I.base.su b o xs e),fun b ps e=>?_⟩,?_,fun x c e=>?_,?_,fun x c e=>?_,fun p hp=>?_,hok,I.len⟩
 ·exact keep b o (neL b o e) hb (neC b o e hx) (I.base.keep b o e n hb hx) (I.base.free b o e n hx)
 ·obtain ⟨sl,e1⟩:=I.base.slot b o e n hb hx;obtain ⟨sl',e2⟩:=slot b _ (neL b o e) hb (neC b o e hx) e1 (I.base.free b o e n hx);exact ⟨sl',e2⟩
 ·obtain ⟨o',e1⟩:=I.base.there b o e hx;exact free b o' (neC b o e hx) e1 (I.base.free b o e n hx)
 ·obtain ⟨o',e1⟩:=I.base.there b o e hx;exact there b o' (neC b o e hx) e1
 ·obtain ⟨m1,e1⟩:=I.base.vU b ps e;obtain ⟨m2,e2⟩:=vU b _ e1;exact ⟨m1++m2,by rw [e2,Array.append_assoc]⟩
 ·obtain ⟨m,hn,hl⟩:=I.loc;refine ⟨m,ns m hn,fun i x v e1 e2 e3=>?_⟩;obtain ⟨u,r,l⟩:=hl i x v e1 e2 e3;refine ⟨u,r,?_⟩;rcases l with l | ⟨k,c,e,z⟩
  ·exact .inl l
  ·exact .inr ⟨k,c,e,cellK x c e _ z⟩
 ·obtain ⟨v,z⟩:=I.cell x c e;exact ⟨v,cellK x c e v z⟩
 ·obtain ⟨m,⟨o,_,_,ho,_⟩,_⟩:=I.loc;exact free _ o (fun z=>(hch _ z).2.1 rfl) ho I.free
 ·obtain ⟨v,o,ho,hd⟩:=I.cell x c e;exact free c o (fun z=>(hch c z).2.2.1 x c e rfl) ho (I.iI x c e)
 ·obtain ⟨e,n,ne,nf,d⟩:=I.pin p hp;have nch:p.1 ∉ ch:=fun z=>(hch p.1 z).2.2.2 p hp rfl;exact ⟨keep p.1 p.2 ne nf nch e n,free p.1 p.2 nch e n,ne,nf,d⟩
theorem Inv.un {t':Nat} (I:Inv X pins σ H s) (u:Un X.fs [] H H' s.heap h') (hok:HOk X.prog X.w H' h'):Inv X pins σ H' { s with heap:=h',toks:=t' }:=by
 obtain ⟨m,⟨o,es,ep,ho,r⟩,_⟩:=id I.loc;obtain ⟨sl,hL⟩:=u.any ho I.free (by simp)
 exact I.step (g':=s.gens) (d':=s.drawn) (ch:=[]) (fun _ z=>nomatch z) (fun b o _ hb _ e n=>u.keep b o e n hb (by simp)) (fun b o _ hb _ e n=>u.slot b o e n hb (by simp)) (fun b o _ e n=>u.free b o e n (by simp)) (fun b o _ e=>u.there b o e (by simp)) u.vt u.su u.vU (fun m' hm=>by
  obtain ⟨o',es',ep',ho',r'⟩:=hm;rw [ho] at ho';cases ho'
  exact ⟨_,es',ep',hL,r'⟩) hok I.bare
theorem Inv.call {g':Array GenState} {t':Nat} {d':Drawn} {ch:List Addr} (I:Inv X pins σ H s) (u:Un (frs X.stack) ch H H' s.heap h') (hok:HOk X.prog X.w H' h') (hg:AllBare g')
  (hch:∀ b∈ch,(b∈X.ex\/X.s₀.heap.objs.size<=b)/\b≠X.env.locals/\(∀ x c,X.env.cells.lookup x=some c->c≠b)/\∀ p∈X.pn++pins,p.1≠b) :
  Inv X pins σ H' { s with heap:=h',gens:=g',drawn:=d',toks:=t' }:=by
 obtain ⟨m,⟨o,es,ep,ho,r⟩,_⟩:=id I.loc;obtain ⟨sl,hL⟩:=u.any ho I.free fun z=>(hch _ z).2.1 rfl
 exact I.step (ch:=ch) hch (fun b o hL hb hc e n=>u.keep b o e n (fun z=>(Jo.mp (I.s8 b z)).elim hL hb) hc) (fun b o _ _ hc e n=>u.any e n hc) (fun b o hc e n=>u.free b o e n hc) (fun b o hc e=>u.there b o e hc) u.vt u.su u.vU (fun m' hm=>by
  obtain ⟨o',es',ep',ho',r'⟩:=hm;rw [ho] at ho';cases ho'
  exact ⟨_,es',ep',hL,r'⟩) hok hg
theorem Inv.turned {t':Nat} {it:Addr} (I:Inv X pins σ H s) (k:∀ b o,b≠it->s.heap.get? b=some o->h'.get? b=some o) (hn:H it=none) (hL:it≠X.env.locals)
  (h1:it∈X.ex\/X.s₀.heap.objs.size<=it) (h2:∀ x c,X.env.cells.lookup x=some c->c≠it) (h3:∀ p∈X.pn++pins,p.1≠it):Inv X pins σ H { s with heap:=h',toks:=t' }:=by
 have nit:∀ b u,H b=some u->b≠it:=fun b u e z=>by rw [z,hn] at e;cases e
 refine I.step (g':=s.gens) (d':=s.drawn) (ch:=[it]) (fun b hb=>?_) (fun b o _ _ hc e _=>k b o (fun z=>hc (by simp [z])) e) (fun b o _ _ hc e _=>⟨o.slots,k b o (fun z=>hc (by simp [z])) e⟩) (fun _ _ _ _ n=>n)
  (fun b o hc e=>⟨o,k b o (fun z=>hc (by simp [z])) e⟩) (fun _ _ e=>e) (fun _ _ _ e=>e) (fun b ps e=>⟨#[],by rw [e];simp⟩) (fun m hm=>?_) (fun b u e=>?_) I.bare
 ·have e:b=it:=by simpa using hb
  subst e;exact ⟨h1,hL,h2,h3⟩
 ·obtain ⟨o,es,ep,ho,r⟩:=hm;exact ⟨o,es,ep,k _ o (Ne.symm hL) ho,r⟩
 ·refine (I.hok b u e).nE (fun c v hc q=>k c v ?_ q) (fun _ q=>q) fun _ _ q=>q;rcases hc with z | z
  ·rw [z];exact nit b u e
  ·exact nit c _ z
theorem Inv.tok (I:Inv X pins σ H s) (t:Nat):Inv X pins σ H { s with toks:=t }:=I.un (h':=s.heap) (t':=t) Un.refl I.hok
theorem Inv.kept {t':Nat} (I:Inv X pins σ H s) (k:∀ b u,s.heap.get? b=some u->h'.get? b=some u):Inv X pins σ H { s with heap:=h',toks:=t' }:=I.un (Un.kept k) (I.hok.kept k)
theorem Inv.laid {a:Addr} {o:HO} {t':Nat} (I:Inv X pins σ H s) (k:∀ b u,s.heap.get? b=some u->h'.get? b=some u) (hp:s.heap.objs.size<=a) (new:b6 X.prog X.w (upd H a o) h' a o) :
  Inv X pins σ (upd H a o) { s with heap:=h',toks:=t' }:=I.un (Un.laid k hp (I.hok.fresh hp)) (I.hok.laid k hp new)
theorem Inv.write {x e:Addr} {o:HO} {t':Nat} (I:Inv X pins σ H s) (mu:Mut (H x)) (he:e=x\/H e=some (.own x)) (k:∀ b u,b≠e->s.heap.get? b=some u->h'.get? b=some u) (heo:∃ u,h'.get? e=some u)
  (new:b6 X.prog X.w (upd H x o) h' x o):Inv X pins σ (upd H x o) { s with heap:=h',toks:=t' }:=I.un (Un.write mu he k heo) (I.hok.write mu he k heo new)
theorem Inv.dC {pins':List (Addr×Obj)} (I:Inv X pins σ H s) (h:∀ p∈pins',s.heap.get? p.1=some p.2/\H p.1=none/\p.1≠X.env.locals/\p.1 ∉ X.fs/\∀ v,p.2.data≠.cell v):Inv X pins' σ H s :=
 ⟨I.ok,I.os,I.bare,I.base,I.loc,I.cell,I.free,I.iI,fun p hp=>(Jx.mp hp).elim (fun z=>I.pin p (Jq _ z)) (h p),I.hok,I.len⟩
theorem pN {N:List Str} (hN:N.Nodup) {i j:Nat} {x:Str} (a:N[i]?=some x) (b:N[j]?=some x):i=j:=by
 obtain ⟨h1,e1⟩:=IL.mp a;obtain ⟨h2,e2⟩:=IL.mp b;exact (List.getElem_inj hN).mp (e1.trans e2.symm)
theorem rq {M:Model} {A:Around} {E:Value->Shared->Prop} {i:Nat} {x:Str} {v:V} {u:Value} {Q:Unit->Shared->Prop} (I:Inv X pins σ H s) (hN:X.N.Nodup) (hi:X.N[i]?=some x) (hx:Loc X.env.scope x) (r:RelV v u)
  (h:∀ s',Inv X pins (σ.set i (some v)) H s'->(∃ a,Heap.SameBut a s.heap s'.heap/\(a=X.env.locals\/X.env.cells.lookup x=some a))->Q () s') (hf:X.fn x=true\/X.env.scope.names.lookup x=some .local:=by first | exact .inl rfl | exact .inr rfl | assumption):wpAny M A (storeName X.env x u) Q E s:=by
 obtain ⟨m,hn,hl⟩:=id I.loc;have hcls:(X.env.scope.kind==.class||(X.env.scope.kind==.module&&X.env.locals != X.env.globals))=false:=by rw [I.ok.kind];rfl
 have hiσ:i < σ.length:=by rw [I.len];exact (IL.mp hi).1
 have cne:=I.cne;have tracked:∀ {a:Addr} {h':Heap},(∃ o,s.heap.get? a=some o/\H a=none)->Heap.SameBut a s.heap h'->HOk X.prog X.w H h':=fun {a h'} ha hs b ob e=>by
  obtain ⟨_,_,hfree⟩:=ha;refine (I.hok b ob e).nE (fun c w' hc q=>(hs.2 c ?_).trans q) (fun _ q=>q) fun _ _ q=>q;rintro rfl;rcases hc with rfl | hc
  ·rw [hfree] at e;cases e
  ·rw [hfree] at hc;cases hc
 rcases hx with hk | hk
 ·refine wpAny_storeName_local hk hn (fun h' hn' hs=>?_) hcls;obtain ⟨oL,_,_,hoL,_⟩:=id hn;refine h _ ⟨I.ok,I.os,I.bare,⟨fun b o e n hb hx=>?_,fun b o e n hb hx=>?_,I.base.free,fun b o e hx=>?_,I.base.vt,I.base.su,I.base.vU⟩,⟨_,hn',fun j y v' e1 e2 e3=>?_⟩,fun y c e=>?_,I.free,I.iI,fun p hp=>?_,tracked ⟨oL,hoL,I.free⟩ hs,by simpa using I.len⟩ ⟨_,hs,.inl rfl⟩
  ·exact (hs.2 b (JJ (Jm (Ji e) I.ok.above))).trans (I.base.keep b o e n hb hx)
  ·obtain ⟨sl,e1⟩:=I.base.slot b o e n hb hx;exact ⟨sl,(hs.2 b (JJ (Jm (Ji e) I.ok.above))).trans e1⟩
  ·obtain ⟨o',e1⟩:=I.base.there b o e hx;exact ⟨o',(hs.2 b (JJ (Jm (Ji e) I.ok.above))).trans e1⟩
  ·by_cases hj:j=i
   ·subst hj;rw [hi] at e1;cases e1;rw [Jc hiσ] at e2;cases e2;exact ⟨u,r,.inl ⟨hk,by simp⟩⟩
   ·rw [IM (Ne.symm hj)] at e2;obtain ⟨u',r',q⟩:=hl j y v' e1 e2 e3;refine ⟨u',r',?_⟩;rcases q with ⟨k,e⟩ | ⟨k,c,e,z⟩
    ·refine .inl ⟨k,?_⟩;have:y≠x:=fun e=>hj (pN hN e1 (e▸hi));simp [this,e]
    ·exact .inr ⟨k,c,e,z.sameBut hs (cne y c e)⟩
  ·obtain ⟨w',z⟩:=I.cell y c e;exact ⟨w',z.sameBut hs (cne y c e)⟩
  ·obtain ⟨e,n,ne,nf,d⟩:=I.pin p hp;exact ⟨(hs.2 p.1 ne).trans e,n,ne,nf,d⟩
 ·have hfn:X.fn x=true:=by
   rcases hf with z | z
   ·exact z
   ·rw [z] at hk;cases hk
  obtain ⟨c,hc⟩:=I.ok.has x (.inl hk);obtain ⟨w',z⟩:=I.cell x c hc;refine wpAny_storeName_cell I.ok.kind hk hc z (fun h' hc' hs=>?_);obtain ⟨oc,hoc,hocd⟩:=id z;refine h { s with heap:=h' } ⟨I.ok,I.os,I.bare,⟨fun b o e n hb hx=>?_,fun b o e n hb hx=>?_,I.base.free,fun b o e hx=>?_,I.base.vt,I.base.su,I.base.vU⟩,⟨m,hn.sameBut hs (Ne.symm (cne x c hc)),fun j y v' e1 e2 e3=>?_⟩,fun y c' e=>?_,I.free,I.iI,fun p hp=>?_,tracked ⟨oc,hoc,I.iI x c hc⟩ hs,by simpa using I.len⟩ ⟨c,hs,.inr hc⟩
  ·exact (hs.2 b (JJ (Jm (Ji e) (I.ok.cab x c hfn hc)))).trans (I.base.keep b o e n hb hx)
  ·obtain ⟨sl,e1⟩:=I.base.slot b o e n hb hx;exact ⟨sl,(hs.2 b (JJ (Jm (Ji e) (I.ok.cab x c hfn hc)))).trans e1⟩
  ·obtain ⟨o',e1⟩:=I.base.there b o e hx;exact ⟨o',(hs.2 b (JJ (Jm (Ji e) (I.ok.cab x c hfn hc)))).trans e1⟩
  ·by_cases hj:j=i
   ·subst hj;rw [hi] at e1;cases e1;rw [Jc hiσ] at e2;cases e2;exact ⟨u,r,.inr ⟨.inl hk,c,hc,hc'⟩⟩
   ·rw [IM (Ne.symm hj)] at e2;obtain ⟨u',r',q⟩:=hl j y v' e1 e2 e3;refine ⟨u',r',?_⟩;rcases q with q | ⟨k,c',e,z'⟩
    ·exact .inl q
    ·refine .inr ⟨k,c',e,z'.sameBut hs ?_⟩;rintro rfl;exact hj (pN hN e1 (I.ok.inj _ _ _ e hc▸hi))
  ·by_cases hcc:c'=c
   ·subst hcc;exact ⟨_,hc'⟩
   ·obtain ⟨w2,z2⟩:=I.cell y c' e;exact ⟨w2,z2.sameBut hs hcc⟩
  ·obtain ⟨e,n,ne,nf,d⟩:=I.pin p hp;refine ⟨(hs.2 p.1 ?_).trans e,n,ne,nf,d⟩;intro q;rw [q,hoc] at e;have q':oc=p.2:=J1 e;exact d w' (by rw [<- q'];exact hocd)
theorem p4 {M:Model} {A:Around} {E:Value->Shared->Prop} {i:Nat} {x:Str} {v:V} {u:Value} {Q:Unit->Shared->Prop} (I:Inv X pins σ H s) (hN:X.N.Nodup) (hi:X.N[i]?=some x) (hx:Loc X.env.scope x) (r:RelV v u)
  (h:∀ s',Inv X pins (σ.set i (some v)) H s'->Q () s') (hf:X.fn x=true\/X.env.scope.names.lookup x=some .local:=by first | exact .inl rfl | exact .inr rfl | assumption):wpAny M A (storeName X.env x u) Q E s :=
 rq I hN hi hx r (fun s' I' _=>h s' I') hf
end
abbrev XK:=Value->Option Addr->Hp->Prop
abbrev St:=List (Option V)
abbrev VK:=V->Hp->Prop
abbrev TE:=St->Hp->VK->Prop
abbrev TT:=St->Hp->(Bool->Hp->Prop)->Prop
abbrev TA:=St->Hp->(List V->Hp->Prop)->Prop
structure Ends where
 nx:St->Hp->Prop
 rt:VK
 bk:St->Hp->Prop:=fun _ _=>False
 ct:St->Hp->Prop:=fun _ _=>False
abbrev TS:=Ends->St->Hp->Prop
def EP (X:Cx) (pins:List (Addr×Obj)) (σ:St) (Q:VK) (u:Value) (s':Shared):Prop:=∃ v H',Inv X pins σ H' s'/\RelV v u/\Q v H'
def TP (X:Cx) (pins:List (Addr×Obj)) (σ:St) (Q:Bool->Hp->Prop) (b:Bool) (s':Shared):Prop:=∃ H',Inv X pins σ H' s'/\Q b H'
def AP (X:Cx) (pins:List (Addr×Obj)) (σ:St) (Q:List V->Hp->Prop) (us:List Value) (s':Shared):Prop:=∃ vs H',Inv X pins σ H' s'/\Vals vs us/\Q vs H'
def SP (X:Cx) (pins:List (Addr×Obj)) (D:Ends) (f:Flow) (s':Shared):Prop :=
 match f with
 | .next=>∃ σ' H',Inv X pins σ' H' s'/\D.nx σ' H'
 | .brk=>∃ σ' H',Inv X pins σ' H' s'/\D.bk σ' H'
 | .cont=>∃ σ' H',Inv X pins σ' H' s'/\D.ct σ' H'
 | .ret u=>∃ v σ' H',Inv X pins σ' H' s'/\RelV v u/\D.rt v H'
def PE (X:Cx) (e:Expr) (t:TE):Prop :=
 ∀ (pins:List (Addr×Obj)) (s:Shared) (σ:St) (H:Hp) (Q:VK),Inv X pins σ H s->t σ H Q->wpAny (model X.prog X.w) X.A (eval e X.env) (EP X pins σ Q) X.xe s
def PT (X:Cx) (e:Expr) (t:TT):Prop :=
 ∀ (pins:List (Addr×Obj)) (s:Shared) (σ:St) (H:Hp) (Q:Bool->Hp->Prop),Inv X pins σ H s->t σ H Q->wpAny (model X.prog X.w) X.A (isTrue e X.env (eval e X.env)) (TP X pins σ Q) X.xe s
def PW (X:Cx) (e:Expr) (t:TT):Prop :=
 ∀ (whole:Sem Value) (pins:List (Addr×Obj)) (s:Shared) (σ:St) (H:Hp) (Q:Bool->Hp->Prop),Inv X pins σ H s->t σ H Q->wpAny (model X.prog X.w) X.A (isTrue e X.env whole) (TP X pins σ Q) X.xe s
theorem PW.pt {X:Cx} {e:Expr} {t:TT} (h:PW X e t):PT X e t:=h _
def PA (X:Cx) (es:List Expr) (t:TA):Prop :=
 ∀ (pos:Pos) (pins:List (Addr×Obj)) (s:Shared) (σ:St) (H:Hp) (Q:List V->Hp->Prop),Inv X pins σ H s->t σ H Q->wpAny (model X.prog X.w) X.A (spliced (backTo pos (starEach es X.env))) (AP X pins σ Q) X.xe s
def PS (X:Cx) (st:Stmt) (t:TS):Prop :=
 ∀ (pins:List (Addr×Obj)) (s:Shared) (σ:St) (H:Hp) (D:Ends),Inv X pins σ H s->t D σ H->wpAny (model X.prog X.w) X.A (exec st X.env) (SP X pins D) X.xe s
def PSs (X:Cx) (st:List Stmt) (t:TS):Prop :=
 ∀ (pins:List (Addr×Obj)) (s:Shared) (σ:St) (H:Hp) (D:Ends),Inv X pins σ H s->t D σ H->wpAny (model X.prog X.w) X.A (execs st X.env) (SP X pins D) X.xe s
theorem thn {α:Type} {t:Sem α} {Q Q':α->Shared->Prop} {M:Model} {A:Around} {E:Value->Shared->Prop} {s:Shared} (h:wpAny M A t Q E s) (hQ:∀ a s,Q a s->Q' a s):wpAny M A t Q' E s:=JH h hQ fun _ _ x=>x
end L2
namespace L2
open PySem PySem.Spec PyProof.Rows
section
variable {X:Cx}
theorem bin {a b:Expr} {ta tb:TE} (ha:PE X a ta) (hb:PE X b tb) {pins:List (Addr×Obj)} {s:Shared} {σ:St} {H:Hp} {R:V->V->Hp->Prop} (I:Inv X pins σ H s) (h:ta σ H fun x H1=>tb σ H1 fun y H2=>R x y H2)
  {α:Type} {Q:α->Shared->Prop} {f:Value->Value->Sem α}
  (hf:∀ v u s2 x y H2,Inv X pins σ H2 s2->RelV x v->RelV y u->R x y H2->wpAny (model X.prog X.w) X.A (f v u) Q X.xe s2) :
  wpAny (model X.prog X.w) X.A (eval a X.env) (fun v s₁=>wpAny (model X.prog X.w) X.A (eval b X.env) (fun u s₂=>wpAny (model X.prog X.w) X.A (f v u) Q X.xe s₂) X.xe s₁) X.xe s:=by
 refine thn (ha pins s σ H _ I h) fun v s1 ⟨x,H1,I1,r1,q1⟩=>?_;refine thn (hb pins s1 σ H1 _ I1 q1) fun u s2 ⟨y,H2,I2,r2,q2⟩=>?_;exact hf v u s2 x y H2 I2 r1 r2 q2
def ah (i:Nat):TE:=fun σ H Q=>∃ v,σ[i]?=some (some v)/\Q v H
def tC (v:V):TE:=fun _ H Q=>Q v H
theorem Dv {i:Nat} {x:Str} {pos:Pos} (hN:X.N[i]?=some x) (hv:Vis X.env.scope x) (hd:(x==("__debug__" : Str))=false:=by decide) (hcd:(x==("__classdict__" : Str))=false:=by decide):PE X (.Name x pos) (ah i):=by
 intro pins s σ H Q I h;obtain ⟨v,e,h⟩:=h;obtain ⟨m,hn,hl⟩:=I.loc;obtain ⟨u,r,l⟩:=hl i x v hN e hv;have fin:EP X pins σ Q u s:=⟨v,H,I,r,h⟩;rcases l with ⟨hk,hm⟩ | ⟨hk,c,hc,hcell⟩
 ·exact wpAny_Name (wpAny_loadName_local I.ok.kind hk hn hm fin) hd
 ·rcases hk with hk | hk
  ·exact wpAny_Name (wpAny_loadName_cell I.ok.kind hk hc hcell fin) hd
  ·exact wpAny_Name (wpAny_loadName_free I.ok.kind hk hc hcell fin hcd) hd
theorem AZ {i j pos}:PE X (.Constant (.int i) j pos) (tC (.int i)):=fun _ _ _ H _ I h=>wpAny_Constant_int ⟨.int i,H,I.tok _,⟨_,rfl⟩,h⟩
theorem GF {b j pos}:PE X (.Constant (.bool b) j pos) (tC (.bl b)):=fun _ _ _ H _ I h=>Constant_bool ⟨.bl b,H,I,rfl,h⟩
theorem DD {x j pos}:PE X (.Constant (.str x) j pos) (tC (.str x)):=fun _ _ _ H _ I h=>Calls.Constant_str ⟨.str x,H,I.tok _,⟨_,rfl⟩,h⟩
def Gl (X:Cx) (x:Str):Prop:=X.env.kindOf x=some .globalImplicit
theorem tK {E:Value->Shared->Prop} {pins:List (Addr×Obj)} {s:Shared} {σ:St} {H:Hp} {x:Str} {u:Value} {pos:Pos} {Q:Value->Shared->Prop} (I:Inv X pins σ H s) (hg:Gl X x) (hm:X.mg x=some u) (h:Q u s)
  (hd:(x==("__debug__" : Str))=false:=by decide):wpAny (model X.prog X.w) X.A (eval (.Name x pos) X.env) Q E s :=
 Calls.Name_function_global I.ok.kind hg (Calls.loadGlobal_global (by rw [I.ok.glob];exact I.mod.glob.keeps I.bk) hm h) hd
theorem nC {E:Value->Shared->Prop} {pins:List (Addr×Obj)} {s:Shared} {σ:St} {H:Hp} {x:Str} {u:Value} {pos:Pos} {Q:Value->Shared->Prop} (I:Inv X pins σ H s) (hg:Gl X x) (hm:X.mg x=none) (hv:bootBuiltins x=some u) (h:Q u s)
  (hn:x ≠ "__name__" := by decide) (hd:(x==("__debug__" : Str))=false:=by decide):wpAny (model X.prog X.w) X.A (eval (.Name x pos) X.env) Q E s:=by
 obtain ⟨mb,h1,h2⟩:=I.mod.blt;exact Calls.Name_function_global I.ok.kind hg (Calls.loadGlobal_builtin (by rw [I.ok.glob];exact I.mod.glob.keeps I.bk) hm (by rw [I.ok.blt];exact h1.keeps I.bk) ((h2 x hn).trans hv) h) hd
theorem sJ {x:Str} {v:V} {u:Value} {pos:Pos} (hg:Gl X x) (hm:X.mg x=some u) (r:RelV v u) (hd:(x==("__debug__" : Str))=false:=by decide):PE X (.Name x pos) (tC v) :=
 fun _ _ _ H _ I h=>tK I hg hm ⟨v,H,I,r,h⟩ hd
theorem zE {x:Str} {v:V} {u:Value} {pos:Pos} (hg:Gl X x) (hm:X.mg x=none) (hv:bootBuiltins x=some u) (r:RelV v u) (hn:x ≠ "__name__" := by decide) (hd:(x==("__debug__" : Str))=false:=by decide):PE X (.Name x pos) (tC v) :=
 fun _ _ _ H _ I h=>nC I hg hm hv ⟨v,H,I,r,h⟩ hn hd
variable {a b:Expr} {ta tb:TE} {pos:Pos}
def PC (X:Cx) (op:CmpOp) (a b:Expr) (t:TE):Prop :=
 ∀ (pins:List (Addr×Obj)) (s:Shared) (σ:St) (H:Hp) (Q:VK),Inv X pins σ H s->t σ H Q ->
  wpAny (model X.prog X.w) X.A (eval a X.env) (fun v s₁=>wpAny (model X.prog X.w) X.A (eval b X.env) (fun u s₂=>wpAny (model X.prog X.w) X.A (compareOp op v u) (EP X pins σ Q) X.xe s₂) X.xe s₁) X.xe s
theorem wq (b:Expr) {op:CmpOp} (h:op≠.In) (h2:op≠.NotIn):behindInMarks op b=false:=by
 have e1:(op==CmpOp.In)=false:=by cases op <;> first | rfl | exact absurd rfl h
 have e2:(op==CmpOp.NotIn)=false:=by cases op <;> first | rfl | exact absurd rfl h2
 cases b <;> simp [behindInMarks,e1,e2]
def tB (t:TE):TT:=fun σ H Q=>t σ H fun x H1=>∃ c,x=.bl c/\Q c H1
theorem C7 {op:CmpOp} {t:TE} (h:PC X op a b t) (h1:behindInMarks op b=false:=by first | exact wq _ (by decide) (by decide) | rfl):PT X (.Compare a [op] [b] pos) (tB t):=by
 intro pins s σ H Q I hw;refine wpAny_isTrue_Compare1 (thn (h pins s σ H _ I hw) fun v s1 h1=>thn h1 fun u s2 h2=>thn h2 fun c s3 ⟨x,H1,I1,r1,q1⟩=>?_) h1;obtain ⟨d,rfl,q⟩:=q1;cases r1;exact JR ⟨H1,I1,q⟩
theorem AL {e:Expr} {t:TE} (h:PE X e t) (he:∀ whole,isTrue e X.env whole=(do let v<-whole;standAt e.pos;holding [v] (truthy v)):=by intro _;rfl):PT X e (tB t):=by
 intro pins s σ H Q I hw;refine isTrue_plain (thn (h pins s σ H _ I hw) fun v s1 ⟨x,H1,I1,r1,q1⟩=>?_) (he _);obtain ⟨d,rfl,q⟩:=q1;cases r1;exact JR ⟨H1,I1,q⟩
variable {tA tB':TT} {rest:List Expr}
def AM (t u:TT):TT:=fun σ H Q=>t σ H fun c H1=>if c=true then u σ H1 Q else Q false H1
def tOr (t u:TT):TT:=fun σ H Q=>t σ H fun c H1=>if c=true then Q true H1 else u σ H1 Q
def ql (t:TT):TT:=fun σ H Q=>t σ H fun c H1=>Q (!c) H1
theorem pw_and1 (ha:PT X a tA):PW X (.BoolOp .And [a] pos) tA:=by
 intro wh pins s σ H Q I h;refine isTrue_and (thn (ha pins s σ H Q I h) fun c s1 e=>?_);cases c with
 | true=>exact isTrue_and_nil e
 | false=>exact e
theorem pw_or1 (ha:PT X a tA):PW X (.BoolOp .Or [a] pos) tA:=by
 intro wh pins s σ H Q I h;refine isTrue_or (thn (ha pins s σ H Q I h) fun c s1 e=>?_);cases c with
 | false=>exact isTrue_or_nil e
 | true=>exact e
theorem pw_and (ha:PT X a tA) (hb:PW X (.BoolOp .And (b :: rest) pos) tB'):PW X (.BoolOp .And (a :: b :: rest) pos) (AM tA tB'):=by
 intro wh pins s σ H Q I h;refine isTrue_and (thn (ha pins s σ H _ I h) fun c s1 ⟨H1,I1,q1⟩=>?_);cases c with
 | true=>exact hb wh pins s1 σ H1 Q I1 q1
 | false=>exact ⟨H1,I1,q1⟩
theorem pw_or (ha:PT X a tA) (hb:PW X (.BoolOp .Or (b :: rest) pos) tB'):PW X (.BoolOp .Or (a :: b :: rest) pos) (tOr tA tB'):=by
 intro wh pins s σ H Q I h;refine isTrue_or (thn (ha pins s σ H _ I h) fun c s1 ⟨H1,I1,q1⟩=>?_);cases c with
 | true=>exact ⟨H1,I1,q1⟩
 | false=>exact hb wh pins s1 σ H1 Q I1 q1
theorem DB (ha:PT X a tA):PT X (.UnaryOp .Not a pos) (ql tA):=by
 intro pins s σ H Q I h;exact isTrue_not (ha pins s σ H (fun c H1=>Q (!c) H1) I h)
def jE (ta tb:TE):TE:=fun σ H Q=>ta σ H fun x H1=>∃ c,x=.bl c/\if c=true then tb σ H1 Q else Q (.bl false) H1
def CV (ta tb:TE):TE:=fun σ H Q=>ta σ H fun x H1=>∃ c,x=.bl c/\if c=true then Q (.bl true) H1 else tb σ H1 Q
def wZ (ta:TE):TE:=fun σ H Q=>ta σ H fun x H1=>∃ c,x=.bl c/\Q (.bl (!c)) H1
theorem B9 {op} {t:TE} (h:PE X a t):PE X (.BoolOp op [a] pos) t:=fun pins s σ H Q I hw=>BoolOp_one (h pins s σ H Q I hw)
theorem BH (ha:PE X a ta) (hb:PE X (.BoolOp .And (b :: rest) pos) tb):PE X (.BoolOp .And (a :: b :: rest) pos) (jE ta tb):=by
 intro pins s σ H Q I h;refine BoolOp_and (thn (ha pins s σ H _ I h) fun v s1 ⟨x,H1,I1,r1,q1⟩=>?_);obtain ⟨c,rfl,q1⟩:=q1;cases r1;refine JR ?_;cases c with
 | true=>exact hb pins s1 σ H1 Q I1 q1
 | false=>exact ⟨.bl false,H1,I1,rfl,q1⟩
theorem GH (ha:PE X a ta) (hb:PE X (.BoolOp .Or (b :: rest) pos) tb):PE X (.BoolOp .Or (a :: b :: rest) pos) (CV ta tb):=by
 intro pins s σ H Q I h;refine BoolOp_or (thn (ha pins s σ H _ I h) fun v s1 ⟨x,H1,I1,r1,q1⟩=>?_);obtain ⟨c,rfl,q1⟩:=q1;cases r1;refine JR ?_;cases c with
 | false=>exact hb pins s1 σ H1 Q I1 q1
 | true=>exact ⟨.bl true,H1,I1,rfl,q1⟩
theorem Bj (ha:PE X a ta):PE X (.UnaryOp .Not a pos) (wZ ta):=by
 intro pins s σ H Q I h;refine UnaryOp_ (thn (ha pins s σ H _ I h) fun v s1 ⟨x,H1,I1,r1,q1⟩=>?_);obtain ⟨c,rfl,q1⟩:=q1;cases r1;exact not_of (JR ⟨.bl (!c),H1,I1,rfl,q1⟩)
def tIf (t:TT) (ta tb:TE):TE:=fun σ H Q=>t σ H fun c H1=>if c=true then ta σ H1 Q else tb σ H1 Q
end
end L2
namespace L2
open PySem PySem.Spec PyProof.Rows
def SqL (K:Fg) (H:Hp) (a:Addr) (xs:List V):Prop :=
 Rd H a (.lst xs) \/
  ∃ (o:Obj) (its:Array Value) (n:Nat),K.lookup a=some o/\o.cls=.type "list" /\ o.dict=none/\o.data=.seq its n/\its.size<=sizeLine/\Vals xs its.toList
def SqT (K:Fg) (H:Hp) (a:Addr) (xs:List V):Prop :=
 Rd H a (.tup xs) \/
  ∃ (o:Obj) (its:Array Value) (n:Nat),K.lookup a=some o/\o.cls=.type "tuple" /\ o.data=.seq its n/\its.size<=sizeLine/\Vals xs its.toList
def ID:Value->Option V
 | .none=>some .non
 | .bool b=>some (.bl b)
 | .int i _=>some (.int i)
 | .str x _=>some (.str x)
 | .bytes b _=>some (.byt b)
 | .float b _=>some (.flt b)
 | .ref a=>some (.ref a)
 | .type n=>some (.ty n)
 | _=>none
theorem RelV.abs {x:V} {u:Value} (r:RelV x u):ID u=some x:=by
 cases x with
 | non=>cases r;rfl
 | bl _=>cases r;rfl
 | int _=>obtain ⟨t,rfl⟩:=r;rfl
 | str _=>obtain ⟨t,rfl⟩:=r;rfl
 | byt _=>obtain ⟨t,rfl⟩:=r;rfl
 | flt _=>obtain ⟨t,rfl⟩:=r;rfl
 | ref _=>cases r;rfl
 | ty _=>cases r;rfl
theorem RelV.inj {x y:V} {u:Value} (r:RelV x u) (q:RelV y u):x=y:=J1 (r.abs.symm.trans q.abs)
theorem Vals.inj:∀ {xs ys:List V} {us:List Value},Vals xs us->Vals ys us->xs=ys
 | _,_,_,.nil,.nil=>rfl
 | _,_,_,.cons r t,.cons r' t'=>by rw [r.inj r',Vals.inj t t']
section
variable {X:Cx} {pins:List (Addr×Obj)} {σ:St} {H:Hp} {s:Shared} {a:Addr} {xs ys:List V}
theorem SqT.of {K:Fg} (h:H a=some (.tup xs)):SqT K H a xs:=.inl (.inl h)
theorem Inv.list (I:Inv X pins σ H s) (h:SqL X.K H a xs):∃ its:List Value,Vals xs its/\PlainL s.heap a its.toArray/\xs.length<=sizeLine:=by
 rcases h with h | ⟨o,its,n,hk,hc,hd,hs,hz,r⟩
 ·obtain ⟨z,its,n,r,e⟩:=h.ok I.hok;exact ⟨its,r,⟨_,n,e,rfl,rfl,rfl⟩,z⟩
 ·refine ⟨its.toList,r,⟨o,n,I.kIn a o hk,hc,hd,by simpa using hs⟩,?_⟩;have e:=r.length;simp only [Kg] at e;omega
theorem Inv.tuple (I:Inv X pins σ H s) (h:SqT X.K H a xs):∃ its:List Value,Vals xs its/\IsTup s.heap a its.toArray/\xs.length<=sizeLine:=by
 rcases h with h | ⟨o,its,n,hk,hc,hs,hz,r⟩
 ·obtain ⟨z,its,r,p⟩:=h.ok I.hok;exact ⟨its,r,p,z⟩
 ·refine ⟨its.toList,r,⟨o,I.kIn a o hk,hc,n,by simpa using hs⟩,?_⟩;have e:=r.length;simp only [Kg] at e;omega
theorem Inv.vB (I:Inv X pins σ H s) (h:SqL X.K H a xs) (h':SqL X.K H a ys):xs=ys:=by
 obtain ⟨its,r,⟨o,n,e,_,_,d⟩,_⟩:=I.list h;obtain ⟨its',r',⟨o',n',e',_,_,d'⟩,_⟩:=I.list h';rw [e] at e';cases e';rw [d] at d';injection d' with d1 _;have:its=its':=by simpa using congrArg Array.toList d1
 subst this;exact r.inj r'
theorem Inv.uF (I:Inv X pins σ H s) (h:SqT X.K H a xs) (h':SqT X.K H a ys):xs=ys:=by
 obtain ⟨its,r,⟨o,e,_,n,d⟩,_⟩:=I.tuple h;obtain ⟨its',r',⟨o',e',_,n',d'⟩,_⟩:=I.tuple h';rw [e] at e';cases e';rw [d] at d';injection d' with d1 _;have:its=its':=by simpa using congrArg Array.toList d1
 subst this;exact r.inj r'
end
abbrev Cx.vq (X:Cx) (E:Value->Shared->Prop):Cx:={ X with xe:=E }
abbrev Cx.nox (X:Cx):Cx:=X.vq fun _ _=>False
theorem Cx.Ok.vq {X:Cx} (ok:X.Ok) (E:Value->Shared->Prop):(X.vq E).Ok :=
 ⟨ok.mod,ok.kind,ok.glob,ok.blt,ok.above,ok.inj,ok.has,ok.cab,ok.hd,ok.frames,ok.stk,ok.exf,ok.bs,ok.bsz,ok.ze,ok.Ag,ok.qt,ok.frf⟩
theorem Cx.Ok.iE {X:Cx} {E:Value->Shared->Prop} (ok:(X.vq E).Ok):X.Ok :=
 ⟨ok.mod,ok.kind,ok.glob,ok.blt,ok.above,ok.inj,ok.has,ok.cab,ok.hd,ok.frames,ok.stk,ok.exf,ok.bs,ok.bsz,ok.ze,ok.Ag,ok.qt,ok.frf⟩
section
variable {X:Cx} {pins:List (Addr×Obj)} {σ:St} {H:Hp} {s:Shared} {E:Value->Shared->Prop}
theorem Inv.vq (I:Inv X pins σ H s) (E:Value->Shared->Prop):Inv (X.vq E) pins σ H s:=⟨I.ok.vq E,I.os,I.bare,I.base,I.loc,I.cell,I.free,I.iI,I.pin,I.hok,I.len⟩
theorem Inv.iE (I:Inv (X.vq E) pins σ H s):Inv X pins σ H s:=⟨I.ok.iE,I.os,I.bare,I.base,I.loc,I.cell,I.free,I.iI,I.pin,I.hok,I.len⟩
theorem SP.iE {D:Ends} {f:Flow} {s':Shared} (h:SP (X.vq E) pins D f s'):SP X pins D f s':=by
 cases f with
 | next=>obtain ⟨σ',H',I,q⟩:=h;exact ⟨σ',H',I.iE,q⟩
 | brk=>obtain ⟨σ',H',I,q⟩:=h;exact ⟨σ',H',I.iE,q⟩
 | cont=>obtain ⟨σ',H',I,q⟩:=h;exact ⟨σ',H',I.iE,q⟩
 | ret u=>obtain ⟨v,σ',H',I,r,q⟩:=h;exact ⟨v,σ',H',I.iE,r,q⟩
theorem PSs.nox {st:List Stmt} {t:TS} (h:PSs X.nox st t):PSs X st t:=fun pins s σ H D I hw =>
 JH (h pins s σ H D (I.vq _) hw) (fun _ _ q=>q.iE) fun _ _ z=>False.elim z
end
section
variable {X:Cx} {st:Stmt} {rest:List Stmt} {t u:TS} {e:Expr} {te:TE} {pos:Pos}
def bT:TS:=fun D σ H=>D.nx σ H
def bL (t u:TS):TS:=fun D σ H=>t { D with nx:=u D } σ H
theorem zf:PSs X [] bT:=fun _ _ σ H _ I h=>wpAny_execs_nil ⟨σ,H,I,h⟩
theorem wX (h1:PS X st t) (h2:PSs X rest u):PSs X (st :: rest) (bL t u):=by
 intro pins s σ H D I h;refine wpAny_execs_cons (thn (h1 pins s σ H { D with nx:=u D } I h) fun f s1 q=>?_);cases f with
 | next =>
  obtain ⟨σ',H',I',q⟩:=q;exact h2 pins s1 σ' H' D I' q
 | ret v=>exact q
 | brk=>exact q
 | cont=>exact q
theorem yN (h1:PS X st t):PSs X [st] t:=by
 intro pins s σ H D I h;refine wpAny_execs_cons (thn (h1 pins s σ H D I h) fun f s1 q=>?_);cases f with
 | next=>exact wpAny_execs_nil q
 | ret v=>exact q
 | brk=>exact q
 | cont=>exact q
def Dh:TS:=fun D σ H=>D.bk σ H
def FX:TS:=fun D σ H=>D.ct σ H
theorem Inv.quiet {pins:List (Addr×Obj)} {σ:St} {H:Hp} {s:Shared} (I:Inv X pins σ H s):interactive X.env=false:=by simp [interactive,I.ok.kind]
def qN (te:TE):TS:=fun D σ H=>te σ H fun _ H1=>D.nx σ H1
theorem yi (he:PE X e te) (hs:swapsWith e none pos.line X.env=pure false:=by rfl):PS X (.Expr e pos) (qN te):=by
 intro pins s σ H D I h;exact wpAny_Expr_any (thn (he pins s σ H _ I h) fun v s1 ⟨x,H1,I1,r1,q1⟩=>⟨σ,H1,I1,q1⟩) I.quiet hs
def cI (te:TE):TS:=fun D σ H=>te σ H D.rt
theorem CC (he:PE X e te):PS X (.Return (some e) pos) (cI te):=by
 intro pins s σ H D I h;exact wpAny_Return_some (thn (he pins s σ H _ I h) fun v s1 ⟨x,H1,I1,r1,q1⟩=>⟨x,σ,H1,I1,r1,q1⟩)
def Gg:TS:=fun D _ H=>D.rt .non H
def fX (c:TT) (t u:TS):TS:=fun D σ H=>c σ H fun b H1=>if b=true then t D σ H1 else u D σ H1
theorem Gv {c:Expr} {a b:List Stmt} {tc:TT} (hc:PT X c tc) (ha:PSs X a t) (hb:PSs X b u):PS X (.If c a b pos) (fX tc t u):=by
 intro pins s σ H D I h;refine wpAny_If (thn (hc pins s σ H _ I h) fun d s1 ⟨H1,I1,q1⟩=>?_);cases d with
 | true=>exact ha pins s1 σ H1 D I1 q1
 | false=>exact hb pins s1 σ H1 D I1 q1
def p8:TS:=fun _ _ _=>False
end
abbrev TG:=V->St->Hp->(St->Hp->Prop)->Prop
abbrev TGs:=List V->St->Hp->(St->Hp->Prop)->Prop
def PG (X:Cx) (target:Expr) (t:TG):Prop :=
 ∀ (pins:List (Addr×Obj)) (s:Shared) (σ:St) (H:Hp) (v:V) (u:Value) (Q:St->Hp->Prop),Inv X pins σ H s->RelV v u->t v σ H Q ->
  wpAny (model X.prog X.w) X.A (assign target X.env u) (fun _ s'=>∃ σ' H',Inv X pins σ' H' s'/\Q σ' H') X.xe s
section
variable {X:Cx} {pos:Pos}
def aW (i:Nat):TG:=fun v σ H Q=>Q (σ.set i (some v)) H
theorem oV {i:Nat} {x:Str} (hN:X.N.Nodup) (hi:X.N[i]?=some x) (hx:Loc X.env.scope x) (hf:X.fn x=true\/X.env.scope.names.lookup x=some .local:=by first | exact .inl rfl | exact .inr rfl | assumption):PG X (.Name x pos) (aW i):=by
 intro pins s σ H v u Q I r h;exact wpAny_assign_Name (p4 I hN hi hx r (fun s' I'=>⟨_,H,I',h⟩) hf)
def HJ:TGs:=fun vs σ H Q=>vs=[]/\Q σ H
def F4 (t:TG) (u:TGs):TGs:=fun vs σ H Q=>∃ v r,vs=v :: r/\t v σ H fun σ' H'=>u r σ' H' Q
def HU (K:Fg) (n:Nat) (t:TGs):TG:=fun v σ H Q=>∃ a xs,v=.ref a/\SqT K H a xs/\xs.length=n/\t xs σ H Q
def dW (te:TE) (g:TG):TS:=fun D σ H=>te σ H fun x H1=>g x σ H1 D.nx
theorem AX {i:Nat} {x:Str} {e:Expr} {te:TE} {pos':Pos} (hN:X.N.Nodup) (hi:X.N[i]?=some x) (hx:Loc X.env.scope x) (he:PE X e te) (hs:swapsWith e (some (.Name x pos')) pos.line X.env=pure false:=by rfl) (hf:X.fn x=true\/X.env.scope.names.lookup x=some .local:=by first | exact .inl rfl | exact .inr rfl | assumption) :
  PS X (.Assign [.Name x pos'] e pos) (dW te (aW i)):=by
 intro pins s σ H D I h;refine wpAny_Assign_Name (thn (he pins s σ H _ I h) fun v s1 ⟨y,H1,I1,r1,q1⟩=>?_) hs;exact p4 I1 hN hi hx r1 (fun s2 I2=>⟨_,H1,I2,q1⟩) hf
end
section
variable {X:Cx} {pos:Pos}
def pq (c:TT) (tb:TS):TS:=fun D σ H=>∃ W:Nat->St->Hp->Prop,(∃ m,W m σ H)/\∀ m σ H,W m σ H ->
 c σ H fun b H1=>if b=true then ∃ N:St->Hp->Prop,(∀ σ' H',N σ' H'->∃ m',m' < m/\W m' σ' H')/\tb { D with nx:=N,ct:=N,bk:=D.nx } σ H1 else D.nx σ H1
theorem vX {c:Expr} {body:List Stmt} {tc:TT} {tb:TS} (hp:PassesOwn (model X.prog X.w) X.A X.env X.xe) (hc:PT X c tc) (hb:PSs X body tb):PS X (.While c body [] pos) (pq tc tb):=by
 intro pins s σ H D I h;obtain ⟨W,⟨m0,w0⟩,turn⟩:=h;refine wpAny_While (codeAny_whileLoop (fun n s'=>∃ σ' H',Inv X pins σ' H' s'/\W n σ' H') ?_ m0 ⟨σ,H,I,w0⟩);rintro n s1 ⟨σ1,H1,I1,w1⟩;refine KI hp (thn (hc pins s1 σ1 H1 _ I1 (turn n σ1 H1 w1)) fun b s2 ⟨H2,I2,q2⟩=>?_);cases b with
 | true =>
  obtain ⟨N,hN,q2⟩:=q2;rw [IX rfl];refine KI hp (thn (hb pins s2 σ1 H2 _ I2 q2) fun f s3 q3=>?_);cases f with
  | next =>
   obtain ⟨σ3,H3,I3,n3⟩:=q3;obtain ⟨m',hm,w3⟩:=hN σ3 H3 n3;exact ⟨m',hm,σ3,H3,I3,w3⟩
  | cont =>
   obtain ⟨σ3,H3,I3,n3⟩:=q3;obtain ⟨m',hm,w3⟩:=hN σ3 H3 n3;exact ⟨m',hm,σ3,H3,I3,w3⟩
  | brk=>exact q3
  | ret v=>exact q3
 | false =>
  rw [IV Jf];exact wpAny_execs_nil ⟨σ1,H2,I2,q2⟩
end
structure It where
 go:Nat->Hp->Prop
 yld:Nat->Hp->V->Hp->Prop
 stop:Nat->Hp->Prop
def xM (X:Cx) (pins:List (Addr×Obj)) (H:Hp) (b:Addr):Prop :=
 H b=none/\b≠X.env.locals/\b ∉ X.fs/\(b∈X.ex\/X.s₀.heap.objs.size<=b)/\(∀ x c,X.env.cells.lookup x=some c->c≠b)/\∀ p∈X.pn++pins,p.1≠b
theorem Inv.DQ {X:Cx} {pins:List (Addr×Obj)} {σ:St} {H H':Hp} {s:Shared} {b:Addr} (I:Inv X pins σ H s) (hb:s.heap.objs.size<=b) (hn:H' b=none):xM X pins H' b:=by
 refine ⟨hn,Nat.ne_of_gt (Jm I.lt hb),I.BI hb,.inr (Ju I.sz hb),fun x c e z=>?_,fun p hp z=>?_⟩
 ·obtain ⟨v,q⟩:=I.cell x c e;exact absurd (Jm q.lt (by rw [z];exact hb)) (JY _)
 ·exact absurd (Jm (Ji (I.pin p hp).1) (by rw [z];exact hb)) (JY _)
structure Turn (P:Program) (w:World) (K:Fg) (tg:Expr) (J:It) (fp:List Addr) (it:Addr) (tn:Nat->Heap->Prop):Prop where
 mem:it∈fp
 obj:∀ i h,tn i h->∀ b∈fp,∃ o,h.get? b=some o/\∀ v,o.data≠.cell v
 keep:∀ i h h',tn i h->(∀ b∈fp,∀ o,h.get? b=some o->h'.get? b=some o)->tn i h'
 item:∀ (X:Cx),X.prog=P->X.w=w->X.K=K->X.calm=true->∀ (i:Nat) (pins:List (Addr×Obj)) (s:Shared) (σ:St) (H:Hp) (E:Value->Shared->Prop),Inv X pins σ H s->(∀ b∈fp,xM X pins H b)->tn i s.heap->J.go i H ->
  wpAny (model P w) X.A (pyNext (.ref it)) (fun r s1=>∃ u,r=some u /\
   wpAny (model P w) X.A (letOwnedTupleGo tg (.ref it) u) (fun _ s2=>∃ x H',Inv X pins σ H' s2/\RelV x u/\J.yld i H x H'/\tn (i+1) s2.heap/\∀ b∈fp,H' b=none) E s1) E s
 done:∀ (X:Cx),X.prog=P->X.w=w->X.K=K->X.calm=true->∀ (i:Nat) (pins:List (Addr×Obj)) (s:Shared) (σ:St) (H:Hp) (E:Value->Shared->Prop),Inv X pins σ H s->(∀ b∈fp,xM X pins H b)->tn i s.heap->J.stop i H ->
  wpAny (model P w) X.A (pyNext (.ref it)) (fun r s1=>r=none/\Inv X pins σ H s1) E s
 self:∀ (A:Around) (i:Nat) (s:Shared) (Q:Value->Shared->Prop) (E:Value->Shared->Prop),tn i s.heap->Q (.ref it) s->wpAny (model P w) A (pyIter (.ref it)) Q E s
abbrev TI:=St->Hp->(It->Hp->Prop)->Prop
def PIE (X:Cx) (pins:List (Addr×Obj)) (σ:St) (tg:Expr) (R:It->Hp->Prop) (itv:Value) (s2:Shared):Prop :=
 ∃ (it:Addr) (fp:List Addr) (tn:Nat->Heap->Prop) (J:It) (H':Hp),itv=.ref it/\Inv X pins σ H' s2/\Turn X.prog X.w X.K tg J fp it tn/\tn 0 s2.heap/\(∀ b∈fp,xM X pins H' b)/\R J H'
def PI (X:Cx) (tg iter:Expr) (wi:TI):Prop :=
 ∀ (pins:List (Addr×Obj)) (s:Shared) (σ:St) (H:Hp) (R:It->Hp->Prop),Inv X pins σ H s->wi σ H R ->
  wpAny (model X.prog X.w) X.A (eval iter X.env) (fun v s1=>wpAny (model X.prog X.w) X.A (pyIter v) (PIE X pins σ tg R) X.xe s1) X.xe s
theorem zM {M:Model} {A:Around} {E:Value->Shared->Prop} {s:Shared} {tg:Expr} {it:Addr} {u:Value} {o:Obj} {n:String} {vs:Array Value} {Q:Unit->Shared->Prop} (ho:s.heap.get? it=some o) (hc:o.cls=.type n) (hd:o.data=.fields vs)
    (hn:["enumerate", "zip", "dict_itemiterator", "dict_reverseitemiterator", "odict_iterator", "itertools.zip_longest", "itertools.pairwise"].contains n=false) (hQ:Q () s):wpAny M A (letOwnedTupleGo tg (.ref it) u) Q E s:=by
  unfold letOwnedTupleGo;cases tg <;> first
    | exact IQ hQ
    | (cases u <;> first
        | exact IQ hQ
        | (refine IH (wpAny_load ho ?_)
           rw [hc,hd];show wpAny M A (if (["enumerate", "zip", "dict_itemiterator", "dict_reverseitemiterator", "odict_iterator", "itertools.zip_longest", "itertools.pairwise"].contains n&&vs[0]?==some (rawInt _))=true then _ else _) Q E s;rw [IV (by intro h;rw [hn,Bool.false_and] at h;cases h)]
           exact IQ hQ))
def Itl (K:Fg) (a:Addr):It :=
 ⟨fun i H=>∃ xs x,SqL K H a xs/\xs[i]?=some x,fun i H x H'=>H'=H/\∀ xs,SqL K H a xs->xs[i]?=some x,fun i H=>∃ xs,SqL K H a xs/\xs.length<=i⟩
def Itt (K:Fg) (a:Addr):It :=
 ⟨fun i H=>∃ xs x,SqT K H a xs/\xs[i]?=some x,fun i H x H'=>H'=H/\∀ xs,SqT K H a xs->xs[i]?=some x,fun i H=>∃ xs,SqT K H a xs/\xs.length<=i⟩
def Itr (lo:Int) (n:Nat):It:=⟨fun i _=>i < n,fun i H x H'=>H'=H/\x=.int (lo+i),fun i _=>n<=i⟩
theorem rH {P:Program} {w:World} {K:Fg} {tg:Expr} (a it:Addr):Turn P w K tg (Itl K a) [it] it (fun i h=>h.IsListIter it a i) where
 mem:=by simp
 obj:=fun i h st b hb=>by
  have e:b=it:=by simpa using hb
  subst e;obtain ⟨o,e,c,d⟩:=st;exact ⟨o,e,fun v z=>by rw [d] at z;cases z⟩
 keep:=fun i h h' st k=>st.at fun o e=>k it (by simp) o e
 item:=by
  intro X hP hw hK hc i pins s σ H E I hf st hg;subst hP hw hK;obtain ⟨xs,x,hq,hx⟩:=hg;obtain ⟨its,rv,p,hz⟩:=I.list hq;obtain ⟨u,hu,ru⟩:=rv.get hx;obtain ⟨f0,f1,f2,f3,f4,f5⟩:=hf it (by simp);refine wpAny_pyNext_list_item st p.isList (x:=u) (by simpa using hu) fun h' st' sb=>?_;have I1:Inv X pins σ H { s with heap:=h' }:=I.turned (t':=s.toks) (fun b o hb e=>(sb.2 b hb).trans e) f0 f1 f3 f4 f5;obtain ⟨o,e,c,d⟩:=id st';exact ⟨u,rfl,zM (s:={ s with heap:=h' }) e c d (by decide) ⟨x,H,I1,ru,⟨rfl,fun ys hy=>by rw [I.vB hy hq];exact hx⟩,st',fun b hb=>(hf b hb).1⟩⟩
 done:=by
  intro X hP hw hK hc i pins s σ H E I hf st hg;subst hP hw hK;obtain ⟨xs,hq,hx⟩:=hg;obtain ⟨its,rv,p,hz⟩:=I.list hq;obtain ⟨f0,f1,f2,f3,f4,f5⟩:=hf it (by simp);have hl:=rv.length;exact wpAny_pyNext_list_end (I.ok.hd hc) st p.isList (by simp;omega) fun h' eb=>⟨rfl,I.turned (t':=s.toks) (fun b o hb e=>eb b o hb e) f0 f1 f3 f4 f5⟩
 self:=fun _ _ _ _ _ st h=>wpAny_pyIter_listiter st h
theorem qZ {P:Program} {w:World} {K:Fg} {tg:Expr} (a it:Addr):Turn P w K tg (Itt K a) [it] it (fun i h=>h.IsTupleIter it a i) where
 mem:=by simp
 obj:=fun i h st b hb=>by
  have e:b=it:=by simpa using hb
  subst e;obtain ⟨o,e,c,d⟩:=st;exact ⟨o,e,fun v z=>by rw [d] at z;cases z⟩
 keep:=fun i h h' st k=>st.at fun o e=>k it (by simp) o e
 item:=by
  intro X hP hw hK hc i pins s σ H E I hf st hg;subst hP hw hK;obtain ⟨xs,x,hq,hx⟩:=hg;obtain ⟨its,rv,p,hz⟩:=I.tuple hq;obtain ⟨u,hu,ru⟩:=rv.get hx;obtain ⟨f0,f1,f2,f3,f4,f5⟩:=hf it (by simp);refine wpAny_pyNext_tuple_item st (show s.heap.IsTuple a its.toArray from p) (x:=u) (by simpa using hu) fun h' st' sb=>?_;have I1:Inv X pins σ H { s with heap:=h' }:=I.turned (t':=s.toks) (fun b o hb e=>(sb.2 b hb).trans e) f0 f1 f3 f4 f5;obtain ⟨o,e,c,d⟩:=id st';exact ⟨u,rfl,zM (s:={ s with heap:=h' }) e c d (by decide) ⟨x,H,I1,ru,⟨rfl,fun ys hy=>by rw [I.uF hy hq];exact hx⟩,st',fun b hb=>(hf b hb).1⟩⟩
 done:=by
  intro X hP hw hK hc i pins s σ H E I hf st hg;subst hP hw hK;obtain ⟨xs,hq,hx⟩:=hg;obtain ⟨its,rv,p,hz⟩:=I.tuple hq;obtain ⟨f0,f1,f2,f3,f4,f5⟩:=hf it (by simp);have hl:=rv.length;exact wpAny_pyNext_tuple_end (I.ok.hd hc) st (show s.heap.IsTuple a its.toArray from p) (by simp;omega) fun h' eb=>⟨rfl,I.turned (t':=s.toks) (fun b o hb e=>eb b o hb e) f0 f1 f3 f4 f5⟩
 self:=fun _ _ _ _ _ st h=>wpAny_pyIter_tupleiter st h
theorem qW {P:Program} {w:World} {K:Fg} {tg:Expr} (it:Addr) (lo:Int) (n:Nat):Turn P w K tg (Itr lo n) [it] it (fun i h=>IsRangeIter h it (lo+(i:Nat)*1) ((n:Int) - (i:Nat)) 1) where
 mem:=by simp
 obj:=fun i h st b hb=>by
  have e:b=it:=by simpa using hb
  subst e
  exact ⟨_,st,fun v z=>by
   have z':Data.fields _=Data.cell v:=z
   cases z'⟩
 keep:=fun i h h' st k=>k it (by simp) _ st
 item:=by
  intro X hP hw hK hc i pins s σ H E I hf st hg;subst hP hw hK;obtain ⟨f0,f1,f2,f3,f4,f5⟩:=hf it (by simp);have W:=Walks.range (prog:=X.prog) (w:=X.w) (I.ok.hd hc) it lo 1 n;refine W.item i s _ _ hg st fun v h' tk hv st' kk=>?_;obtain ⟨t,rfl⟩:=hv;have I1:Inv X pins σ H { s with heap:=h',toks:=tk }:=I.turned (fun b o hb e=>kk b o (by simpa using hb) e) f0 f1 f3 f4 f5;refine ⟨_,rfl,zM (s:={ s with heap:=h',toks:=tk }) (n := "range_iterator") st' rfl rfl (by decide) ⟨.int (lo+i),H,I1,⟨t,?_⟩,⟨rfl,rfl⟩,st',fun b hb=>(hf b hb).1⟩⟩;rw [Int.mul_one]
 done:=by
  intro X hP hw hK hc i pins s σ H E I hf st hg;subst hP hw hK;obtain ⟨f0,f1,f2,f3,f4,f5⟩:=hf it (by simp);exact wpAny_pyNext_range_end (I.ok.hd hc) st (by have:n<=i:=hg;omega) fun h' eb=>⟨rfl,I.turned (t':=s.toks) (fun b o hb e=>eb b o hb e) f0 f1 f3 f4 f5⟩
 self:=fun _ _ _ _ _ st h=>wpAny_pyIter_rangeiter st h
end L2
namespace L2
open PySem PySem.Spec PyProof.Rows
section
variable {X:Cx} {tg:Expr}
def qO (K:Fg) (tl:TE):TI:=fun σ H R=>tl σ H fun x H1=>∃ a,x=.ref a/\(∃ xs,SqL K H1 a xs)/\R (Itl K a) H1
def Gx (K:Fg) (tl:TE):TI:=fun σ H R=>tl σ H fun x H1=>∃ a,x=.ref a/\(∃ xs,SqT K H1 a xs)/\R (Itt K a) H1
theorem sr {l:Expr} {tl:TE} (hl:PE X l tl):PI X tg l (qO X.K tl):=by
 intro pins s σ H R I h;refine thn (hl pins s σ H _ I h) fun v s1 ⟨x,H1,I1,r1,q1⟩=>?_;obtain ⟨a,e,⟨xs,hq⟩,q⟩:=q1;subst e;cases r1;obtain ⟨its,rv,p,hz⟩:=I1.list hq;refine wpAny_pyIter_list p.isList ?_;refine ⟨s1.heap.objs.size,[s1.heap.objs.size],_,_,H1,rfl,I1.kept (t':=s1.toks) fun b o e=>Ja _ e,rH a _,⟨_,Jt _ rfl,rfl,rfl⟩,fun b hb=>?_,q⟩;have e:b=s1.heap.objs.size:=by simpa using hb
 subst e;exact I1.DQ (IY _) (I1.hok.fresh (IY _))
theorem BZ {l:Expr} {tl:TE} (hl:PE X l tl):PI X tg l (Gx X.K tl):=by
 intro pins s σ H R I h;refine thn (hl pins s σ H _ I h) fun v s1 ⟨x,H1,I1,r1,q1⟩=>?_;obtain ⟨a,e,⟨xs,hq⟩,q⟩:=q1;subst e;cases r1;obtain ⟨its,rv,p,hz⟩:=I1.tuple hq;refine wpAny_pyIter_tuple (show s1.heap.IsTuple a its.toArray from p) ?_;refine ⟨s1.heap.objs.size,[s1.heap.objs.size],_,_,H1,rfl,I1.kept (t':=s1.toks) fun b o e=>Ja _ e,qZ a _,⟨_,Jt _ rfl,rfl,rfl⟩,fun b hb=>?_,q⟩;have e:b=s1.heap.objs.size:=by simpa using hb
 subst e;exact I1.DQ (IY _) (I1.hok.fresh (IY _))
theorem vJ {pins:List (Addr×Obj)} {σ:St} {H:Hp} {s:Shared} {R:It->Hp->Prop} {E:Value->Shared->Prop} {lo hi:Int} {t u v:Tok} {tk:Nat} (I:Inv X pins σ H s) (h1:-(2 ^ 62)<=lo) (h2:lo < 2 ^ 62) (h3:-(2 ^ 62)<=hi) (h4:hi < 2 ^ 62)
  (q:R (Itr lo (hi - lo).toNat) H):wpAny (model X.prog X.w) X.A (pyIter (.ref s.heap.objs.size)) (PIE X pins σ tg R) E { s with heap:=s.heap.push { cls:=.type "range", data:=.fields #[.int lo t,.int hi u,.int 1 v] },toks:=tk }:=by
 refine wpAny_pyIter_range (IsRange.new ..) (small_one h1 h2 h3 h4) ?_;have I1:Inv X pins σ H { s with heap:=s.heap.push { cls:=.type "range", data:=.fields #[.int lo t,.int hi u,.int 1 v] },toks:=tk }:=I.kept fun b o e=>Ja _ e
 refine ⟨(s.heap.push { cls:=.type "range", data:=.fields #[.int lo t,.int hi u,.int 1 v] }).objs.size,[(s.heap.push { cls:=.type "range", data:=.fields #[.int lo t,.int hi u,.int 1 v] }).objs.size],_,_,H,rfl,
  I1.kept (t':=tk) fun b o e=>Ja _ e,qW _ lo (hi - lo).toNat,?_,fun b hb=>?_,q⟩
 ·have e1:lo+((0:Nat):Int)*1=lo:=by simp
  have e2:(((hi - lo).toNat:Nat):Int) - ((0:Nat):Int)=Builtin.Range.rangeSize lo hi 1:=by rw [rangeSize_one];split <;> omega
  show IsRangeIter _ _ (lo+((0:Nat):Int)*1) ((((hi - lo).toNat:Nat):Int) - ((0:Nat):Int)) 1;rw [e1,e2];exact Jt _ rfl
 ·have e:b=(s.heap.push { cls:=.type "range", data:=.fields #[.int lo t,.int hi u,.int 1 v] }).objs.size:=by simpa using hb
  subst e;exact I1.DQ (IY _) (I1.hok.fresh (IY _))
def ma (ta:TA):TI:=fun σ H R=>ta σ H fun vs H1=>∃ j:Int,vs=[.int j]/\-(2 ^ 62)<=j/\j < 2 ^ 62/\R (Itr 0 j.toNat) H1
def E5 (ta:TA):TI:=fun σ H R=>ta σ H fun vs H1=>∃ i j:Int,vs=[.int i,.int j]/\(-(2 ^ 62)<=i/\i < 2 ^ 62/\-(2 ^ 62)<=j/\j < 2 ^ 62)/\R (Itr i (j - i).toNat) H1
theorem tZ {a:Expr} {ta:TA} {p pos:Pos} (hg:Gl X "range") (hm:X.mg "range" = none) (ha:PA X [a] ta) (hs:starEach [a] X.env=[(false,eval a X.env)]:=by rfl):PI X tg (.Call (.Name "range" p) [a] [] pos) (ma ta):=by
 intro pins s σ H R I h;refine Call_ (nC I hg hm boot_range (PyProof.Rows.callWith_type1 (thn (ha pos pins s σ H _ I h) fun us s1 ⟨vs,H1,I1,r1,q1⟩=>?_) hs rfl));obtain ⟨j,e,q1,q2,q⟩:=q1;subst e;cases r1 with
 | cons r rr =>
  cases rr;obtain ⟨t,rfl⟩:=r;exact call_range_1 (vJ I1 (by omega) (by omega) q1 q2 (by simpa using q))
def we (wi:TI) (g:TG) (tb:TS):TS:=fun D σ H=>wi σ H fun J H1=>∃ W:Nat->Nat->St->Hp->Prop,(∃ m,W 0 m σ H1)/\∀ i m σ H,W i m σ H ->
 (J.stop i H/\D.nx σ H)\/(J.go i H/\∃ N:St->Hp->Prop,(∀ σ' H',N σ' H'->∃ m',m' < m/\W (i+1) m' σ' H')/\∀ x H',J.yld i H x H'->g x σ H' fun σ2 H2=>tb { D with nx:=N,ct:=N,bk:=D.nx } σ2 H2)
def nq (fp:List Addr) (h:Heap):List (Addr×Obj):=fp.filterMap fun b=>(h.get? b).map fun o=>(b,o)
theorem fi {fp:List Addr} {h:Heap} {b:Addr} {o:Obj} (hb:b∈fp) (e:h.get? b=some o):(b,o)∈nq fp h:=List.mem_filterMap.mpr ⟨b,hb,by rw [e];rfl⟩
theorem uq {fp:List Addr} {h:Heap} {p:Addr×Obj} (hp:p∈nq fp h):p.1∈fp/\h.get? p.1=some p.2:=by
 obtain ⟨b,hb,e⟩:=List.mem_filterMap.mp hp;cases q:h.get? b with
 | none=>rw [q] at e;cases e
 | some o =>
  rw [q] at e;have e':(b,o)=p:=J1 e;subst e';exact ⟨hb,q⟩
theorem Inv.pinned {pins:List (Addr×Obj)} {σ:St} {H:Hp} {s:Shared} {fp:List Addr} (I:Inv X pins σ H s) (hf:∀ b∈fp,xM X pins H b) (ho:∀ b∈fp,∃ o,s.heap.get? b=some o/\∀ v,o.data≠.cell v):Inv X (pins++nq fp s.heap) σ H s :=
 I.dC fun p hp=>(Jx.mp hp).elim (fun z=>I.pin p (IS _ z)) fun z=>by
  obtain ⟨hb,e⟩:=uq z;obtain ⟨f0,f1,f2,_⟩:=hf p.1 hb;obtain ⟨o,e',d⟩:=ho p.1 hb;rw [e] at e';cases e';exact ⟨e,f0,f1,f2,d⟩
theorem Inv.iT {pins pl:List (Addr×Obj)} {σ:St} {H:Hp} {s:Shared} (I:Inv X (pins++pl) σ H s):Inv X pins σ H s:=I.dC fun p hp=>I.pin p (IS _ (Jq _ hp))
theorem AQ {iter:Expr} {body:List Stmt} {wi:TI} {g:TG} {tb:TS} {pos:Pos} (hp:PassesOwn (model X.prog X.w) X.A X.env X.xe) (hc:X.calm=true) (hi:PI X tg iter wi) (hg:PG X tg g) (hb:PSs X body tb)
  (hs:∀ x,foldedSetIterable iter X.env x=pure x:=by intro _;rfl):PS X (.For tg iter body [] pos) (we wi g tb):=by
 intro pins s σ H D I h;refine wpAny_For (thn (hi pins s σ H _ I h) fun v s1 h1=>thn h1 fun itv s2 h2=>?_) hs;obtain ⟨it,fp,tn,J,H2,e,I2,T,st2,f2,W,⟨m0,w0⟩,turn⟩:=h2;subst e;have stat:∀ {H':Hp},(∀ b∈fp,H' b=none)->∀ b∈fp,xM X pins H' b:=fun hn b hb=>⟨hn b hb,(f2 b hb).2⟩;refine codeAny_forLoop_any (fun n s'=>∃ i σ' H',Inv X pins σ' H' s'/\tn i s'.heap/\(∀ b∈fp,H' b=none)/\W i n σ' H') ?_ m0 ⟨0,σ,H2,I2,st2,fun b hb=>(f2 b hb).1,w0⟩;rintro n s3 ⟨i,σ3,H3,I3,st3,fr3,w3⟩;rcases turn i n σ3 H3 w3 with ⟨stop,qn⟩ | ⟨go,N,hN,step⟩
 ·refine KI hp (thn (T.done X rfl rfl rfl hc i pins s3 σ3 H3 X.xe I3 (stat fr3) st3 stop) fun r s4 ⟨hr,I4⟩=>?_);subst hr;exact wpAny_execs_nil ⟨σ3,H3,I4,qn⟩
 ·refine KI hp (thn (T.item X rfl rfl rfl hc i pins s3 σ3 H3 X.xe I3 (stat fr3) st3 go) fun r s4 ⟨u,hr,h4⟩=>?_);subst hr;refine KI hp (thn h4 fun _ s5 ⟨x,H5,I5,r5,y5,st5,fr5⟩=>?_);have I5':=I5.pinned (stat fr5) (T.obj _ _ st5);refine KI hp (thn (hg _ s5 σ3 H5 x u _ I5' r5 (step x H5 y5)) fun _ s6 ⟨σ6,H6,I6,q6⟩=>?_);refine KI hp (thn (hb _ s6 σ6 H6 _ I6 q6) fun f s7 q7=>?_);have again:∀ {σ7:St} {H7:Hp},Inv X (pins++nq fp s5.heap) σ7 H7 s7->N σ7 H7->∃ m,m < n/\∃ i σ' H',Inv X pins σ' H' s7/\tn i s7.heap/\(∀ b∈fp,H' b=none)/\W i m σ' H':=fun {σ7 H7} I7 n7=>by
   obtain ⟨m',hm,w7⟩:=hN σ7 H7 n7;refine ⟨m',hm,i+1,σ7,H7,I7.iT,T.keep _ _ _ st5 fun b hb o e=>(I7.pin (b,o) (IS _ (IS _ (fi hb e)))).1,fun b hb=>?_,w7⟩;obtain ⟨o,e,d⟩:=T.obj _ _ st5 b hb;exact (I7.pin (b,o) (IS _ (IS _ (fi hb e)))).2.1
  cases f with
  | next=>obtain ⟨σ7,H7,I7,n7⟩:=q7;exact again I7 n7
  | cont=>obtain ⟨σ7,H7,I7,n7⟩:=q7;exact again I7 n7
  | brk=>obtain ⟨σ7,H7,I7,q7⟩:=q7;exact ⟨σ7,H7,I7.iT,q7⟩
  | ret v=>obtain ⟨x7,σ7,H7,I7,r7,q7⟩:=q7;exact ⟨x7,σ7,H7,I7.iT,r7,q7⟩
end
end L2
namespace L2
open PySem PySem.Spec PyProof.Rows
abbrev R2:=V->V->Hp->VK->Prop
def OpR (X:Cx) (f:Value->Value->Sem Value) (r:R2):Prop :=
 ∀ (pins:List (Addr×Obj)) (s:Shared) (σ:St) (H:Hp) (x y:V) (v u:Value) (Q:VK),Inv X pins σ H s->RelV x v->RelV y u->r x y H Q ->
  wpAny (model X.prog X.w) X.A (f v u) (EP X pins σ Q) X.xe s
def UnR (X:Cx) (f:Value->Sem Value) (r:V->Hp->VK->Prop):Prop :=
 ∀ (pins:List (Addr×Obj)) (s:Shared) (σ:St) (H:Hp) (x:V) (v:Value) (Q:VK),Inv X pins σ H s->RelV x v->r x H Q ->
  wpAny (model X.prog X.w) X.A (f v) (EP X pins σ Q) X.xe s
def bM (X:Cx) (f:Value) (r:List V->Hp->VK->Prop):Prop :=
 ∀ (pins:List (Addr×Obj)) (s:Shared) (σ:St) (H:Hp) (xs:List V) (us:List Value) (Q:VK),Inv X pins σ H s->Vals xs us->r xs H Q ->
  wpAny (model X.prog X.w) X.A (call f us) (EP X pins σ Q) X.xe s
def HE (X:Cx) (r:V->Hp->(Bool->Hp->Prop)->Prop):Prop :=
 ∀ (pins:List (Addr×Obj)) (s:Shared) (σ:St) (H:Hp) (x:V) (v:Value) (Q:Bool->Hp->Prop),Inv X pins σ H s->RelV x v->r x H Q ->
  wpAny (model X.prog X.w) X.A (truthy v) (TP X pins σ Q) X.xe s
def tOp (r:R2) (ta tb:TE):TE:=fun σ H Q=>ta σ H fun x H1=>tb σ H1 fun y H2=>r x y H2 Q
def tUn (r:V->Hp->VK->Prop) (ta:TE):TE:=fun σ H Q=>ta σ H fun x H1=>r x H1 Q
def rI (C:Int->Int->Prop) (g:Int->Int->V):R2:=fun x y H Q=>∃ i j,x=.int i/\y=.int j/\C i j/\Q (g i j) H
def rI0 (g:Int->Int->V):R2:=fun x y H Q=>∃ i j,x=.int i/\y=.int j/\Q (g i j) H
def rU (g:Int->V):V->Hp->VK->Prop:=fun x H Q=>∃ i,x=.int i/\Q (g i) H
section
variable {X:Cx} {a b c:Expr} {ta tb tc:TE} {pos:Pos}
theorem Ei (ha:PE X a ta) (hb:PE X b tb) {pins:List (Addr×Obj)} {s:Shared} {σ:St} {H:Hp} {R:V->V->Hp->Prop} (I:Inv X pins σ H s)
  (h:ta σ H fun x H1=>tb σ H1 fun y H2=>R x y H2) {Q:Value->Shared->Prop} {f:Value->Value->Sem Value}
  (hf:∀ v u s2 x y H2,Inv X pins σ H2 s2->RelV x v->RelV y u->R x y H2->wpAny (model X.prog X.w) X.A (f v u) Q X.xe s2) :
  wpAny (model X.prog X.w) X.A (eval a X.env) (fun v s₁=>wpAny (model X.prog X.w) X.A (eval b X.env) (fun u s₂=>wpAny (model X.prog X.w) X.A (f v u) Q X.xe s₂) X.xe s₁) X.xe s:=by
 refine thn (ha pins s σ H _ I h) fun v s1 ⟨x,H1,I1,r1,q1⟩=>?_;refine thn (hb pins s1 σ H1 _ I1 q1) fun u s2 ⟨y,H2,I2,r2,q2⟩=>?_;exact hf v u s2 x y H2 I2 r1 r2 q2
theorem Ff {op:Operator} {r:R2} (ho:OpR X (binaryOp op) r) (ha:PE X a ta) (hb:PE X b tb):PE X (.BinOp a op b pos) (tOp r ta tb):=by
 intro pins s σ H Q I h;exact wpAny_BinOp (Ei ha hb I h fun v u s2 x y H2 I2 rx ry q=>ho pins s2 σ H2 x y v u Q I2 rx ry q)
theorem Et {op:UnaryOp} {r:V->Hp->VK->Prop} (ho:UnR X (unaryOp op) r) (ha:PE X a ta):PE X (.UnaryOp op a pos) (tUn r ta):=by
 intro pins s σ H Q I h;exact UnaryOp_ (thn (ha pins s σ H _ I h) fun v s1 ⟨x,H1,I1,r1,q1⟩=>ho pins s1 σ H1 x v Q I1 r1 q1)
theorem opI {f:Value->Value->Sem Value} {C:Int->Int->Prop} {g:Int->Int->Int}
  (rule:∀ (i j:Int) (t u:Tok) (s:Shared) (Q:Value->Shared->Prop) (E:Value->Shared->Prop),C i j->Q (.int (g i j) s.toks) { s with toks:=s.toks+1 }->wpAny (model X.prog X.w) X.A (f (.int i t) (.int j u)) Q E s) :
  OpR X f (rI C fun i j=>.int (g i j)):=by
 intro pins s σ H x y v u Q I rx ry h;obtain ⟨i,j,rfl,rfl,hc,q⟩:=h;obtain ⟨t,rfl⟩:=rx;obtain ⟨t',rfl⟩:=ry;exact rule i j t t' s _ _ hc ⟨.int (g i j),H,I.tok _,⟨_,rfl⟩,q⟩
theorem GZ {f:Value->Value->Sem Value} {g:Int->Int->Int}
  (rule:∀ (i j:Int) (t u:Tok) (s:Shared) (Q:Value->Shared->Prop) (E:Value->Shared->Prop),Q (.int (g i j) s.toks) { s with toks:=s.toks+1 }->wpAny (model X.prog X.w) X.A (f (.int i t) (.int j u)) Q E s) :
  OpR X f (rI0 fun i j=>.int (g i j)):=by
 intro pins s σ H x y v u Q I rx ry h;obtain ⟨i,j,rfl,rfl,q⟩:=h;obtain ⟨t,rfl⟩:=rx;obtain ⟨t',rfl⟩:=ry;exact rule i j t t' s _ _ ⟨.int (g i j),H,I.tok _,⟨_,rfl⟩,q⟩
theorem DP {f:Value->Value->Sem Value} {g:Int->Int->Bool}
  (rule:∀ (i j:Int) (t u:Tok) (s:Shared) (Q:Value->Shared->Prop) (E:Value->Shared->Prop),Q (.bool (g i j)) s->wpAny (model X.prog X.w) X.A (f (.int i t) (.int j u)) Q E s) :
  OpR X f (rI0 fun i j=>.bl (g i j)):=by
 intro pins s σ H x y v u Q I rx ry h;obtain ⟨i,j,rfl,rfl,q⟩:=h;obtain ⟨t,rfl⟩:=rx;obtain ⟨t',rfl⟩:=ry;exact rule i j t t' s _ _ ⟨.bl (g i j),H,I,rfl,q⟩
def Hd (i j:Int):Prop:=0<=j/\j<=1000000/\i.natAbs < 2 ^ 64
def Di (i j:Int):Prop:=(-(2 ^ 64) < i/\i < 2 ^ 64)\/(-(2 ^ 64) < j/\j < 2 ^ 64)
theorem Di.ok {i j:Int} (h:Di i j):IntMulOk i j:=by
 rcases h with ⟨h1,h2⟩ | ⟨h1,h2⟩
 ·exact .of_left (intBits_le_64 h1 h2)
 ·exact .of_right (intBits_le_64 h1 h2)
theorem Ay:OpR X (binaryOp .Add) (rI0 fun i j=>.int (i+j)):=GZ fun _ _ _ _ _ _ _ q=>add_int q
theorem A9:OpR X (binaryOp .Sub) (rI0 fun i j=>.int (i - j)):=GZ fun _ _ _ _ _ _ _ q=>sub_int q
theorem AR:OpR X (binaryOp .Mult) (rI Di fun i j=>.int (i*j)):=opI fun _ _ _ _ _ _ _ hc q=>mul_int q hc.ok
theorem A3:OpR X (binaryOp .Mod) (rI (fun _ j=>0 < j) fun i j=>.int (i % j)):=opI fun i j _ _ _ _ _ hc q=>by
 have h1:(0:Int) < j:=hc;exact mod_int' (by omega) (by rw [Int.fmod_eq_emod_of_nonneg i (by omega)];exact q)
theorem Df:OpR X (binaryOp .Pow) (rI Hd fun i j=>.int (i ^ j.toNat)):=opI fun _ _ _ _ _ _ _ hc q=>pow_int_small hc.1 hc.2.1 hc.2.2 q
theorem unI {f:Value->Sem Value} {g:Int->Int}
  (rule:∀ (i:Int) (t:Tok) (s:Shared) (Q:Value->Shared->Prop) (E:Value->Shared->Prop),Q (.int (g i) s.toks) { s with toks:=s.toks+1 }->wpAny (model X.prog X.w) X.A (f (.int i t)) Q E s) :
  UnR X f (rU fun i=>.int (g i)):=by
 intro pins s σ H x v Q I rx h;obtain ⟨i,rfl,q⟩:=h;obtain ⟨t,rfl⟩:=rx;exact rule i t s _ _ ⟨.int (g i),H,I.tok _,⟨_,rfl⟩,q⟩
theorem xH:UnR X (unaryOp .USub) (rU fun i=>.int (-i)):=unI fun _ _ _ _ _ q=>neg_int q
end
section
variable {X:Cx} {a b c:Expr} {ta tb tc:TE} {pos:Pos}
theorem yc {pins:List (Addr×Obj)} {σ:St} {H:Hp} {s:Shared} {Q:VK} {k k':Bool} (I:Inv X pins σ H s) (q:Q (.bl k) H) (e:k=k'):EP X pins σ Q (.bool k') s:=by
 subst e;exact ⟨.bl k,H,I,rfl,q⟩
theorem Gi:OpR X (compareOp .Lt) (rI0 fun i j=>.bl (decide (i < j))):=DP fun _ _ _ _ _ _ _ q=>lt_int q
theorem DX:OpR X (compareOp .LtE) (rI0 fun i j=>.bl (decide (i<=j))):=DP fun _ _ _ _ _ _ _ q=>le_int q
theorem Gr:OpR X (compareOp .Gt) (rI0 fun i j=>.bl (decide (j < i))):=DP fun _ _ _ _ _ _ _ q=>gt_int q
theorem ES:OpR X (compareOp .GtE) (rI0 fun i j=>.bl (decide (j<=i))):=DP fun _ _ _ _ _ _ _ q=>ge_int q
theorem rV:OpR X (compareOp .Lt) (fun x y H Q=>∃ i j,x=.str i/\y=.str j/\Q (.bl (decide (i.cps.toList < j.cps.toList))) H):=by
 intro pins s σ H x y v u Q I rx ry h;obtain ⟨i,j,rfl,rfl,q⟩:=h;obtain ⟨t,rfl⟩:=rx;obtain ⟨t',rfl⟩:=ry;exact lt_str (yc I q rfl)
theorem sx:OpR X (compareOp .In) (fun x y H Q=>∃ i j,x=.str i/\y=.str j/\Q (.bl (!(Builtin.Str.occurrences j i 0 j.length 1).isEmpty)) H):=by
 intro pins s σ H x y v u Q I rx ry h;obtain ⟨i,j,rfl,rfl,q⟩:=h;obtain ⟨t,rfl⟩:=rx;obtain ⟨t',rfl⟩:=ry;exact in_str (yc I q rfl)
theorem aY (b:Expr) {op:CmpOp} (h:op≠.In:=by decide) (h2:op≠.NotIn:=by decide):behindInMarks op b=false:=by
 have e1:(op==CmpOp.In)=false:=by cases op <;> first | rfl | exact absurd rfl h
 have e2:(op==CmpOp.NotIn)=false:=by cases op <;> first | rfl | exact absurd rfl h2
 cases b <;> simp [behindInMarks,e1,e2]
theorem yz {op:CmpOp} {r:R2} (ho:OpR X (compareOp op) r) (ha:PE X a ta) (hb:PE X b tb) (hm:behindInMarks op b=false):PE X (.Compare a [op] [b] pos) (tOp r ta tb):=by
 intro pins s σ H Q I h;exact wpAny_Compare1 (Ei ha hb I h fun v u s2 x y H2 I2 rx ry q=>ho pins s2 σ H2 x y v u Q I2 rx ry q) hm
def b5 (t:TE):TT:=fun σ H Q=>t σ H fun x H'=>∃ k,x=.bl k/\Q k H'
theorem zq {op:CmpOp} {r:R2} (ho:OpR X (compareOp op) r) (ha:PE X a ta) (hb:PE X b tb) (hm:behindInMarks op b=false):PT X (.Compare a [op] [b] pos) (b5 (tOp r ta tb)):=by
 intro pins s σ H Q I h
 refine wpAny_isTrue_Compare1 (thn (ha pins s σ H _ I h) fun v s1 ⟨x,H1,I1,r1,q1⟩=>thn (hb pins s1 σ H1 _ I1 q1) fun u s2 ⟨y,H2,I2,r2,q2⟩ =>
  thn (ho pins s2 σ H2 x y v u _ I2 r1 r2 q2) fun c s3 ⟨z,H3,I3,r3,k,e,q3⟩=>?_) hm
 subst e;cases r3;exact JR ⟨H3,I3,q3⟩
def jk (r r':R2) (ta tb tc:TE):TE:=fun σ H Q=>ta σ H fun x H1=>tb σ H1 fun y H2=>r x y H2 fun z H3=>∃ k,z=.bl k /\
 (if k=true then tc σ H3 fun w' H4=>r' y w' H4 Q else Q (.bl false) H3)
theorem v9 {op op':CmpOp} {r r':R2} (ho:OpR X (compareOp op) r) (ho':OpR X (compareOp op') r') (ha:PE X a ta) (hb:PE X b tb) (hc:PE X c tc)
  (hm:lastMarks [op,op'] [b,c]=false:=by with_unfolding_all rfl):PE X (.Compare a [op,op'] [b,c] pos) (jk r r' ta tb tc):=by
 intro pins s σ H Q I h
 refine Compare_chain (thn (ha pins s σ H _ I h) fun v s1 ⟨x,H1,I1,r1,q1⟩=>chain_link (thn (hb pins s1 σ H1 _ I1 q1) fun u s2 ⟨y,H2,I2,r2,q2⟩ =>
  thn (ho pins s2 σ H2 x y v u _ I2 r1 r2 q2) fun d s3 ⟨z,H3,I3,r3,k,e,q3⟩=>?_)) hm
 subst e;cases r3;refine JR ?_;cases k with
 | false=>exact ite_ff ⟨.bl false,H3,I3,rfl,q3⟩
 | true=>exact ite_tt (chain_last (thn (hc pins s3 σ H3 _ I3 q3) fun w' s4 ⟨z',H4,I4,r4,q4⟩=>ho' pins s4 σ H4 y z' u w' Q I4 r2 r4 q4))
theorem xa {op op':CmpOp} {r r':R2} (ho:OpR X (compareOp op) r) (ho':OpR X (compareOp op') r') (ha:PE X a ta) (hb:PE X b tb) (hc:PE X c tc)
  (hm:lastMarks [op,op'] [b,c]=false:=by with_unfolding_all rfl):PT X (.Compare a [op,op'] [b,c] pos) (b5 (jk r r' ta tb tc)):=by
 intro pins s σ H Q I h
 refine isTrue_chain (thn (ha pins s σ H _ I h) fun v s1 ⟨x,H1,I1,r1,q1⟩=>test_link (thn (hb pins s1 σ H1 _ I1 q1) fun u s2 ⟨y,H2,I2,r2,q2⟩ =>
  thn (ho pins s2 σ H2 x y v u _ I2 r1 r2 q2) fun d s3 ⟨z,H3,I3,r3,k,e,q3⟩=>?_)) hm
 subst e;cases r3;refine JR ?_;cases k with
 | false =>
  obtain ⟨k',e',q'⟩:=q3;cases e';exact ite_ff ⟨H3,I3,q'⟩
 | true =>
  refine ite_tt (test_last (thn (hc pins s3 σ H3 _ I3 q3) fun w' s4 ⟨z',H4,I4,r4,q4⟩=>thn (ho' pins s4 σ H4 y z' u w' _ I4 r2 r4 q4) fun d' s5 ⟨z2,H5,I5,r5,k2,e2,q5⟩=>?_));subst e2;cases r5;exact JR ⟨H5,I5,q5⟩
def E4 (K:Fg) (x:V) (H:Hp) (k:Bool):Prop :=
 match x with
 | .non=>k=false
 | .bl b=>k=b
 | .int i=>k=(i != 0)
 | .str y=>y.length<=sizeLine/\k=((y.length:Int) != 0)
 | .byt y=>y.size<=sizeLine/\k=((y.size:Int) != 0)
 | .ref p=>(∃ xs,SqL K H p xs/\k=!xs.isEmpty)\/(∃ xs,SqT K H p xs/\k=!xs.isEmpty)\/∃ kvs,H p=some (.dK kvs)/\k=!kvs.isEmpty
 | _=>False
theorem qC {κ:Type} {kvs:List (κ×V)} {vs:List (κ×Value)} (r:KV kvs vs):(!vs.isEmpty)=!kvs.isEmpty:=by
 cases r <;> rfl
theorem kj {xs:List V} {its:List Value} (r:Vals xs its):(!its.toArray.isEmpty)=!xs.isEmpty:=by
 cases r <;> simp
theorem me:(sizeLine:Nat) < 2 ^ 63:=by rw [Kb];decide
theorem Hm:HE X (fun x H Q=>∃ k,E4 X.K x H k/\Q k H):=by
 intro pins s σ H x v Q I rx h;obtain ⟨k,e,q⟩:=h;have hl:=me;have hs:sizeLine=16777216:=Kb;cases x with
 | non =>
  cases rx;have e':k=false:=e;subst e';exact truthy_none ⟨H,I,q⟩
 | bl b =>
  cases rx;have e':k=b:=e;subst e';exact JR ⟨H,I,q⟩
 | int i =>
  obtain ⟨t,rfl⟩:=rx;have e':k=(i != 0):=e;subst e';exact PySem.P.truthy_int ⟨H,I,q⟩
 | str y =>
  obtain ⟨t,rfl⟩:=rx;obtain ⟨hy,e'⟩:y.length<=sizeLine/\k=((y.length:Int) != 0):=e;subst e';exact PySem.P.truthy_str (by omega) ⟨H,I.tok _,q⟩
 | byt y =>
  obtain ⟨t,rfl⟩:=rx;obtain ⟨hy,e'⟩:y.size<=sizeLine/\k=((y.size:Int) != 0):=e;subst e';exact PySem.W.truthy_bytes (by omega) ⟨H,I.tok _,q⟩
 | ref p =>
  cases rx;have e':(∃ xs,SqL X.K H p xs/\k=!xs.isEmpty)\/(∃ xs,SqT X.K H p xs/\k=!xs.isEmpty)\/∃ kvs,H p=some (.dK kvs)/\k=!kvs.isEmpty:=e;rcases e' with ⟨xs,hx,e'⟩ | ⟨xs,hx,e'⟩ | ⟨kvs,hx,e'⟩
  ·subst e';obtain ⟨its,r,pl,hz⟩:=I.list hx;have hlen:=r.length;exact wpAny_truthy_list pl.isList (by simp only [IW];omega) ⟨H,I.tok _,by rw [kj r];exact q⟩
  ·subst e';obtain ⟨its,r,pl,hz⟩:=I.tuple hx;have hlen:=r.length;exact truthy_tuple pl (by simp only [IW];omega) ⟨H,I.tok _,by rw [kj r];exact q⟩
  ·subst e';obtain ⟨hz,hS,vs,r,m⟩:kvs.length<=sizeLine/\(p==sysModules)=false/\∃ vs,KV kvs vs/\s.heap.DictOf (bS X.prog X.w) p vs:=I.hok p _ hx;have hlen:kvs.length=vs.length:=Lc r;exact wpAny_truthy_dict hS m (by omega) ⟨H,I.tok _,by rw [qC r];exact q⟩
 | _=>exact (show False from e).elim
theorem ri:OpR X (binaryOp .Add) (fun x y H Q=>∃ i j,x=.str i/\y=.str j/\i.length+j.length<=sizeLine/\Q (.str (i++j)) H):=by
 intro pins s σ H x y v u Q I rx ry h;obtain ⟨i,j,rfl,rfl,hz,q⟩:=h;obtain ⟨t,rfl⟩:=rx;obtain ⟨t',rfl⟩:=ry;exact add_str (fun t' tk=>⟨.str (i++j),H,I.tok _,⟨_,rfl⟩,q⟩) hz
theorem vals1 {x:V} {us:List Value} (r:Vals [x] us):∃ u,us=[u]/\RelV x u:=by
 cases r with
 | cons r1 r2=>cases r2;exact ⟨_,rfl,r1⟩
theorem vals2 {x y:V} {us:List Value} (r:Vals [x,y] us):∃ u w',us=[u,w']/\RelV x u/\RelV y w':=by
 cases r with
 | cons r1 r2 =>
  cases r2 with
  | cons r3 r4=>cases r4;exact ⟨_,_,rfl,r1,r3⟩
theorem vG:bM X (.builtin "abs") (fun xs H Q=>∃ i,xs=[.int i]/\Q (.int (if i < 0 then -i else i)) H):=by
 intro pins s σ H xs us Q I r h;obtain ⟨i,rfl,q⟩:=h;obtain ⟨u,rfl,t,rfl⟩:=vals1 r;exact call_abs_int fun u tk=>⟨.int (if i < 0 then -i else i),H,I.tok _,⟨_,rfl⟩,q⟩
theorem uw:bM X (.type "int") (fun xs H Q=>(∃ i,xs=[.int i]/\Q (.int i) H)\/∃ k,xs=[.bl k]/\Q (.int (if k then 1 else 0)) H):=by
 intro pins s σ H xs us Q I r h;rcases h with ⟨i,rfl,q⟩ | ⟨k,rfl,q⟩
 ·obtain ⟨u,rfl,t,rfl⟩:=vals1 r;exact call_int_int ⟨.int i,H,I,⟨_,rfl⟩,q⟩
 ·obtain ⟨u,rfl,r1⟩:=vals1 r;cases r1;exact call_int_bool ⟨.int (if k then 1 else 0),H,I.tok _,⟨_,rfl⟩,q⟩
def G7 (K:Fg) (x:V) (H:Hp) (n:Nat):Prop :=
 match x with
 | .str y=>y.length<=sizeLine/\n=y.length
 | .byt y=>y.size<=sizeLine/\n=y.size
 | .ref p=>(∃ xs,SqL K H p xs/\n=xs.length)\/∃ xs,SqT K H p xs/\n=xs.length
 | _=>False
theorem wJ:bM X (.builtin "len") (fun xs H Q=>∃ x n,xs=[x]/\G7 X.K x H n/\Q (.int n) H):=by
 intro pins s σ H xs us Q I r h;obtain ⟨x,n,rfl,e,q⟩:=h;obtain ⟨u,rfl,rx⟩:=vals1 r;have hl:=me;have hs:sizeLine=16777216:=Kb;cases x with
 | str y =>
  obtain ⟨t,rfl⟩:=rx;obtain ⟨hy,e'⟩:y.length<=sizeLine/\n=y.length:=e;subst e';exact len_str (by omega) ⟨.int _,H,I.tok _,⟨_,rfl⟩,q⟩
 | byt y =>
  obtain ⟨t,rfl⟩:=rx;obtain ⟨hy,e'⟩:y.size<=sizeLine/\n=y.size:=e;subst e';exact PySem.W.len_bytes (by omega) ⟨.int _,H,I.tok _,⟨_,rfl⟩,q⟩
 | ref p =>
  cases rx;have e':(∃ xs,SqL X.K H p xs/\n=xs.length)\/∃ xs,SqT X.K H p xs/\n=xs.length:=e;rcases e' with ⟨xs,hx,e'⟩ | ⟨xs,hx,e'⟩
  ·subst e';obtain ⟨its,r',pl,hz⟩:=I.list hx;have hlen:=r'.length;exact Calls.call_len_list pl.isList (by simp only [IW];omega) ⟨.int xs.length,H,I.tok _,⟨_,by simp only [IW];rw [hlen]⟩,q⟩
  ·subst e';obtain ⟨its,r',pl,hz⟩:=I.tuple hx;have hlen:=r'.length;exact len_tuple pl (by simp only [IW];omega) ⟨.int xs.length,H,I.tok _,⟨_,by simp only [IW];rw [hlen]⟩,q⟩
 | _=>exact (show False from e).elim
end
end L2
namespace L2
open PySem PySem.Spec PyProof.Rows
section
variable {prog:Program} {w:World} {A:Around} {E:Value->Shared->Prop} {s:Shared} {K:Fg} {x dx C f:Addr} {mA:Str->Option Value} {name:Str} {v:Value}
end
section
variable {P:Program} {w:World} {H H':Hp} {h h':Heap} {a C dx:Addr} {fs fs':List (Str×V)}
end
section
variable {X:Cx} {pins:List (Addr×Obj)} {σ:St} {H:Hp} {s:Shared} {a C dx:Addr} {fs:List (Str×V)} {f:Str} {v:V} {A:Around} {E:Value->Shared->Prop}
end
section
variable {X:Cx} {o e value:Expr} {f:Str} {pos pos' tpos:Pos} {ta tv:TE}
end
section
variable {X:Cx} {pins:List (Addr×Obj)} {σ:St} {H:Hp} {s:Shared} {A:Around} {E:Value->Shared->Prop} {Q:Value->Shared->Prop} {c:Value} {b:Bool}
end
end L2
namespace L2
open PySem PySem.Spec PyProof.Rows
structure cp (k:Nat) (A:Around):Prop where
 hd:A.handled=none
 dp:A.depth+3*k+5 < recursionLimit
 un:A.units+16*k+200 < cLine
 gd:A.guards=some []
theorem cp.mono {j k:Nat} {A:Around} (r:cp k A) (h:j<=k):cp j A:=⟨r.hd,by have:=r.dp;omega,by have:=r.un;omega,r.gd⟩
theorem cp.deeper {k:Nat} {A:Around} (r:cp (k+1) A) (env:Env):cp k (A.deeper env) :=
 ⟨r.hd,by have:=r.dp;show A.depth+1+3*k+5 < _;omega,by have:=r.un;show A.units+3+16*k+200 < _;omega,r.gd⟩
theorem cp.in1 {k:Nat} {A:Around} (r:cp (k+1) A):cp k A.in1 :=
 ⟨r.hd,by have:=r.dp;show A.depth+3*k+5 < _;omega,by have:=r.un;show A.units+1+16*k+200 < _;omega,r.gd⟩
theorem cp.depth {k:Nat} {A:Around} (r:cp k A):A.depth < recursionLimit:=by have:=r.dp;omega
theorem cp.units {k:Nat} {A:Around} (r:cp k A):A.units+64 < cLine:=by have:=r.un;omega
theorem cp.AH {k:Nat} {A:Around} (r:cp k A):A.units < cLine:=by have:=r.un;omega
def aB:TA:=fun _ H Q=>Q [] H
def ab (ta:TE) (tr:TA):TA:=fun σ H Q=>ta σ H fun x H1=>tr σ H1 fun xs H2=>Q (x :: xs) H2
section
variable {X:Cx} {e:Expr} {es:List Expr} {te:TE} {t:TA} {pos:Pos}
theorem Al:PA X [] aB:=fun _ _ _ _ H Q I h=>Calls.spliced_nil ⟨[],H,I,.nil,h⟩
theorem yC (ha:PE X e te) (hr:PA X es t) (hs:starEach (e :: es) X.env=(false,eval e X.env) :: starEach es X.env:=by rfl):PA X (e :: es) (ab te t):=by
 intro pos pins s σ H Q I h;rw [hs];show wpAny _ _ (spliced ((false,eval e X.env) :: backTo pos (starEach es X.env))) _ _ s;refine Calls.spliced_cons (thn (ha pins s σ H _ I h) fun u s1 ⟨x,H1,I1,r1,q1⟩=>?_);exact thn (hr pos pins s1 σ H1 _ I1 q1) fun us s2 ⟨xs,H2,I2,r2,q2⟩=>⟨x :: xs,H2,I2,.cons r1 r2,q2⟩
def rm (t:TA):TE:=fun σ H Q=>t σ H fun xs H1=>xs.length<=sizeLine/\∀ p,H1 p=none->Q (.ref p) (upd H1 p (.tup xs))
def xb (t:TA):TE:=fun σ H Q=>t σ H fun xs H1=>xs.length<=sizeLine/\∀ p,H1 p=none->Q (.ref p) (upd H1 p (.lst xs))
theorem Cc {x1} (h:PA X es t):PE X (.Tuple es x1 pos) (rm t):=by
 intro pins s σ H Q I hq;refine wpAny_Tuple_spliced (thn (h pos pins s σ H _ I hq) fun us s1 ⟨xs,H1,I1,r,z,q⟩=>⟨by rw [<- r.length];exact z,?_⟩);have hf:H1 s1.heap.objs.size=none:=I1.hok.fresh (IY _);refine ⟨.ref s1.heap.objs.size,upd H1 s1.heap.objs.size (.tup xs),I1.laid (t':=s1.toks) (fun b u e=>Ja _ e) (IY _) ?_,rfl,q _ hf⟩;exact ⟨z,us,r,⟨_,Jt _ rfl,rfl,_,rfl⟩⟩
theorem Co (h:PA X es t):PE X (.List es pos) (xb t):=by
 intro pins s σ H Q I hq;refine wpAny_List_spliced (thn (h pos pins s σ H _ I hq) fun us s1 ⟨xs,H1,I1,r,z,q⟩=>⟨by rw [<- r.length];exact z,?_⟩);have hf:H1 s1.heap.objs.size=none:=I1.hok.fresh (IY _);refine ⟨.ref s1.heap.objs.size,upd H1 s1.heap.objs.size (.lst xs),I1.laid (t':=s1.toks) (fun b u e=>Ja _ e) (IY _) ?_,rfl,q _ hf⟩;exact ⟨z,us,0,r,Jt _ rfl⟩
end
abbrev Sp:=List V->Hp->VK->XK->Prop
abbrev CXT:=List Env->Hp->Shared->XK->Value->Shared->Prop
structure DU (P:Program) (w:World) (K:Fg) (mg:Str->Option Value) (base:Heap) (A:Around) (outer:List Env) (s:Shared) (H:Hp):Prop where
 frames:A.frames=some outer
 mod:Mod K mg base
 bs:∀ b o,base.get? b=some o->s.heap.get? b=some o/\H b=none
 bsz:base.objs.size<=s.heap.objs.size
 qt:s.heap.FunFrames base outer
 frf:∀ b∈frs outer,H b=none
 hok:HOk P w H s.heap
 bare:AllBare s.gens
def CE (outer:List Env) (P:Program) (w:World) (H:Hp) (s:Shared) (Q:VK) (u:Value) (s':Shared):Prop :=
 ∃ v H',s'.os=s.os/\AllBare s'.gens/\Un (frs outer) [] H H' s.heap s'.heap/\HOk P w H' s'.heap/\RelV v u/\Q v H'
def CR (CX:CXT) (outer:List Env) (P:Program) (w:World) (H:Hp) (s:Shared) (Q:VK) (E:XK) (r:Result) (s':Shared):Prop :=
 match r with
 | .ok (.ret u)=>CE outer P w H s Q u s'
 | .ok _=>False
 | .error e=>CX outer H s E e s'
structure dU (P:Program) (w:World) (K:Fg) (mg:Str->Option Value) (base:Heap) (CX:CXT) (k:Nat) (f:Addr) (fd:FuncData) (ps:List Str) (sp:Sp):Prop where
 len:∀ vs H Q E,sp vs H Q E->vs.length=ps.length
 run:∀ (A:Around) (outer:List Env) (s:Shared) (H:Hp) (args:Args) (us:List Value) (vs:List V) (Q:VK) (E:XK),cp k A->DU P w K mg base A outer s H->BindsTo s fd args (ps.zip us)->Vals vs us->sp vs H Q E ->
  codeAny (model P w) A (.call (.ref f) args) (CR CX outer P w H s Q E) s
section
variable {X:Cx} {pins:List (Addr×Obj)} {σ:St} {H:Hp} {s s':Shared}
theorem Inv.Ej (I:Inv X pins σ H s):DU X.prog X.w X.K X.mg X.base X.A X.stack s H :=
 ⟨I.ok.frames,I.ok.mod,I.bs,Ju I.ok.bsz I.sz,I.stack,I.rJ,I.hok,I.bare⟩
theorem Inv.after {Q:VK} {u:Value} (I:Inv X pins σ H s) (h:CE X.stack X.prog X.w H s Q u s'):EP X pins σ Q u s':=by
 obtain ⟨v,H',os,bare,un,hok,r,q⟩:=h;obtain ⟨hh,g,d,t,os'⟩:=s';obtain rfl:os'=s.os:=os;exact ⟨v,H',I.call (h':=hh) (g':=g) (d':=d) (t':=t) (ch:=[]) un hok bare (fun b z=>absurd z (by simp)),r,q⟩
end
def aG (sp:Sp) (dvs:List V) (E:XK) (t:TA):TE:=fun σ H Q=>t σ H fun vs H1=>sp (vs++dvs) H1 Q E
def Binds (K:Fg) (fd:FuncData) (ps:List Str) (ds:List Value):Prop :=
 ∀ (s:Shared) (us:List Value),K.In s.heap->(us++ds).length=ps.length->BindsTo s fd ⟨us,[]⟩ (ps.zip (us++ds))
theorem Binds.all {K:Fg} {fd:FuncData} {ps:List Str} (h:∀ us:List Value,us.length=ps.length->bindArgs fd ⟨us,[]⟩=pure (ps.zip us)):Binds K fd ps []:=fun s us _ hl=>by
 rw [JV] at hl ⊢;exact .of_eq (h us hl)
def Passes (CX:CXT) (X:Cx) (E:XK):Prop:=∀ (pins:List (Addr×Obj)) (σ:St) (H:Hp) (s:Shared) (e:Value) (s':Shared),Inv X pins σ H s->CX X.stack H s E e s'->X.xe e s'
section
variable {X:Cx} {CX:CXT} {k:Nat} {f C:Addr} {fd:FuncData} {ps:List Str} {sp:Sp} {dvs:List V} {ds:List Value} {E:XK} {x m:Str} {p pos apos:Pos} {e o:Expr} {es:List Expr} {ta:TE} {t:TA}
theorem xW {pins:List (Addr×Obj)} {σ:St} {H:Hp} {s:Shared} {Q:VK} {us:List Value} {vs:List V} (F:dU X.prog X.w X.K X.mg X.base CX k f fd ps sp) (hr:cp k X.A) (hb:Binds X.K fd ps ds) (hd:Vals dvs ds) (hx:Passes CX X E)
  (I:Inv X pins σ H s) (r:Vals vs us) (h:sp (vs++dvs) H Q E):wpAny (model X.prog X.w) X.A (call (.ref f) us) (EP X pins σ Q) X.xe s:=by
 have r2:Vals (vs++dvs) (us++ds):=r.append hd;have hl:(us++ds).length=ps.length:=by rw [<- r2.length];exact F.len _ _ _ _ h
 refine wpAny_call (codeAny_mono (F.run X.A X.stack s H ⟨us,[]⟩ (us++ds) (vs++dvs) Q E hr I.Ej (hb s us I.kIn hl) r2 h) fun r s' hq=>?_);cases r with
 | error e=>exact hx pins σ H s e s' I hq
 | ok fl =>
  cases fl with
  | ret u=>exact I.after hq
  | next=>exact False.elim hq
  | brk=>exact False.elim hq
  | cont=>exact False.elim hq
theorem yg (F:dU X.prog X.w X.K X.mg X.base CX k f fd ps sp) (hr:cp k X.A) (hg:Gl X x) (hm:X.mg x=some (.ref f)) (hk:PySem.W.keepIn X.K (.ref f)=true) (hb:Binds X.K fd ps ds) (hd:Vals dvs ds) (hx:Passes CX X E)
  (ha:PA X (e :: es) t) (hdb:(x==("__debug__" : Str))=false:=by decide) (he:starEach (e :: es) X.env=(false,eval e X.env) :: starEach es X.env:=by rfl) (hpl:(backTo pos (starEach es X.env)).any (·.1)=false:=by rfl) :
  PE X (.Call (.Name x p) (e :: es) [] pos) (aG sp dvs E t):=by
 intro pins s σ H Q I h;refine wpAny_Call_Name_kw (tK I hg hm ?_ hdb);refine PySem.W.callWith_K (h₀:=X.base) I.ok.mod.kin hk (thn (ha pos pins s σ H _ I h) fun us s1 ⟨vs,H1,I1,r,q⟩=>⟨I1.kIn,?_⟩) he hpl;exact xW F hr hb hd hx I1 r q
end
def PK (X:Cx) (kws:List Keyword) (t:TA):Prop :=
 ∀ (pos:Pos) (pins:List (Addr×Obj)) (s:Shared) (σ:St) (H:Hp) (Q:List V->Hp->Prop),Inv X pins σ H s->t σ H Q->wpAny (model X.prog X.w) X.A (evalAll ((backToKw pos (keywordEach kws X.env)).map (·.2))) (AP X pins σ Q) X.xe s
section
variable {X:Cx} {CX:CXT} {k:Nat} {f C:Addr} {fd:FuncData} {ps ks:List Str} {sp:Sp} {E:XK} {x m:Str} {p pos apos kpos:Pos} {e o:Expr} {es:List Expr} {kws:List Keyword} {te ta:TE} {t tk:TA} {nm:Option Str}
theorem Ct:PK X [] aB:=fun _ _ _ _ H Q I h=>wpAny_evalAll_nil ⟨[],H,I,.nil,h⟩
theorem zz (ha:PE X e te) (hr:PK X kws t):PK X (⟨nm,e,kpos⟩ :: kws) (ab te t):=by
 intro pos pins s σ H Q I h;show wpAny _ _ (evalAll ((do let v<-eval e X.env;standAt pos;pure v) :: (backToKw pos (keywordEach kws X.env)).map (·.2))) _ _ s;refine wpAny_evalAll_cons (IH (thn (ha pins s σ H _ I h) fun u s1 ⟨x,H1,I1,r1,q1⟩=>IH (wpAny_standAt (IQ ?_))));exact thn (hr pos pins s1 σ H1 _ I1 q1) fun us s2 ⟨xs,H2,I2,r2,q2⟩=>⟨x :: xs,H2,I2,.cons r1 r2,q2⟩
variable {g:List Value->List Value->List Value} {gV:List V->List V->List V}
end
structure aH (N P:List Str) (sc:Scope):Prop where
 kind:sc.kind=.function
 co:sc.isCoroutine=false
 gen:sc.isGenerator=false
 nd:N.Nodup
 pre:N.take P.length=P
 par:∀ x∈P,sc.names.lookup x=some .local\/sc.names.lookup x=some .cell
 C8:∀ y∈sc.names,y.2≠.free
theorem nt {kindOf:Str->Option NameKind} {x:Str}:∀ {binds:List (Str×Value)} {m:Str->Option Value},(∀ v,(x,v) ∉ binds)->bindL kindOf binds m x=m x
 | [],_,_=>rfl
 | (n,v) :: r,m,h=>by
  unfold bindL;rw [nt fun w hw=>h w (Jb _ hw)];split
  ·have:x≠n:=by rintro rfl;exact h v IU
   simp [this]
  ·rfl
theorem mS {kindOf:Str->Option NameKind} {x:Str}:∀ {binds:List (Str×Value)} {m:Str->Option Value},(∀ v,(x,v) ∉ binds)->bindC kindOf binds m x=m x
 | [],_,_=>rfl
 | (n,v) :: r,m,h=>by
  unfold bindC;rw [mS fun w hw=>h w (Jb _ hw)];split
  ·rfl
  ·have:x≠n:=by rintro rfl;exact h v IU
   simp [this]
theorem mM {kindOf:Str->Option NameKind} {x:Str} {v:Value}:∀ {P:List Str} {vs:List Value} {i:Nat} {m:Str->Option Value},P.Nodup->P[i]?=some x->vs[i]?=some v->kindOf x=some .local ->
  bindL kindOf (P.zip vs) m x=some v
 | [],_,_,_,_,h,_,_=>by simp at h
 | _ :: _,[],_,_,_,_,h,_=>by simp at h
 | p :: P,w :: vs,0,m,nd,h1,h2,hk=>by
  simp at h1 h2;subst h1;subst h2;show bindL kindOf ((p,w) :: P.zip vs) m p=_;unfold bindL;rw [nt fun v hv=>(J2.mp nd).1 (List.of_mem_zip hv).1,IX hk];simp
 | p :: P,w :: vs,i+1,m,nd,h1,h2,hk=>by
  show bindL kindOf ((p,w) :: P.zip vs) m x=_;unfold bindL;exact mM (i:=i) (J2.mp nd).2 (by simpa using h1) (by simpa using h2) hk
theorem mE {kindOf:Str->Option NameKind} {x:Str} {v:Value}:∀ {P:List Str} {vs:List Value} {i:Nat} {m:Str->Option Value},P.Nodup->P[i]?=some x->vs[i]?=some v->kindOf x≠some .local ->
  bindC kindOf (P.zip vs) m x=some v
 | [],_,_,_,_,h,_,_=>by simp at h
 | _ :: _,[],_,_,_,_,h,_=>by simp at h
 | p :: P,w :: vs,0,m,nd,h1,h2,hk=>by
  simp at h1 h2;subst h1;subst h2;show bindC kindOf ((p,w) :: P.zip vs) m p=_;unfold bindC;rw [mS fun v hv=>(J2.mp nd).1 (List.of_mem_zip hv).1,IV hk];simp
 | p :: P,w :: vs,i+1,m,nd,h1,h2,hk=>by
  show bindC kindOf ((p,w) :: P.zip vs) m x=_;unfold bindC;exact mE (i:=i) (J2.mp nd).2 (by simpa using h1) (by simpa using h2) hk
def start (N:List Str) (vs:List V):St:=vs.map some++List.replicate (N.length - vs.length) none
def fm (CX:CXT) (P:Program) (w:World) (K:Fg) (mg:Str->Option Value) (base:Heap) (N:List Str) (qual:Str) (scope:Scope) (f:Addr) (cd:Value) (A:Around) (outer:List Env) (s:Shared) (H:Hp) (E:XK):Cx where
 prog:=P
 w:=w
 K:=K
 mg:=mg
 base:=base
 A:=A.deeper (envOfC qual scope s.heap.objs.size f cd)
 N:=N
 s₀:=s
 H₀:=H
 env:=envOfC qual scope s.heap.objs.size f cd
 outer:=outer
 stack:=envOfC qual scope s.heap.objs.size f cd :: outer
 ex:=[]
 calm:=true
 fn:=fun _=>true
 pn:=[]
 xe:=fun e s'=>wpAny (model P w) (A.deeper (envOfC qual scope s.heap.objs.size f cd)) (leaving (envOfC qual scope s.heap.objs.size f cd) e) (fun _ s''=>CX outer H s E e s'') (fun e' s''=>CX outer H s E e' s'') s'
theorem qg {sc:Scope} {n:Nat} {x:Str} (h:sc.names.lookup x=some .cell):∃ c,(cellsFrom n sc.names []).lookup x=some c:=by
 have q:=PySem.W.cellsFrom_some sc.names n [] (.inl h);exact Option.isSome_iff_exists.mp q
theorem rK {CX:CXT} {P:Program} {w:World} {K:Fg} {mg:Str->Option Value} {base:Heap} {N ps:List Str} {qual:Str} {scope:Scope} {f:Addr} {cd:Value} {A:Around} {outer:List Env} {s s1:Shared} {H:Hp} {E:XK} {us:List Value} {vs:List V}
  (S:aH N ps scope) (hd:A.handled=none) (e0:DU P w K mg base A outer s H) (hl:vs.length=ps.length) (r:Vals vs us)
  (x:InCallC s s.heap.objs.size (bindL (envOfC qual scope s.heap.objs.size f cd).kindOf (ps.zip us) fun _=>none) (cellsFrom (s.heap.objs.size+1) scope.names []) (bindC (envOfC qual scope s.heap.objs.size f cd).kindOf (ps.zip us) fun _=>none) s1) :
  Inv (fm CX P w K mg base N qual scope f cd A outer s H E) [] (start N vs) H s1:=by
 have hpl:ps.length<=N.length:=by have:=congrArg List.length S.pre;rw [JN] at this;omega
 obtain ⟨h1,tk,rfl,hk⟩:=x.done;have noA:∀ b:Addr,b ∉ (fm CX P w K mg base N qual scope f cd A outer s H E).ex:=fun b z=>absurd (show b∈([]:List Addr) from z) (by simp)
 refine ⟨⟨e0.mod,S.kind,rfl,rfl,IY _,fun y z c h1 h2=>?_,fun y hy=>?_,fun y c _ h=>?_,fun _=>hd,Around.frames_deeper e0.frames,.inr ⟨rfl,rfl⟩,fun b z=>absurd z (noA b),e0.bs,e0.bsz,fun b _ _=>noA b,fun b z=>absurd z (noA b),e0.qt,e0.frf⟩,
  rfl,e0.bare,Un.kept hk,⟨_,x.toInCall.ns,fun i y v h1 h2 h3=>?_⟩,fun y c h=>⟨_,x.cell y c h⟩,e0.hok.fresh (IY _),fun y c h=>?_,fun p hp=>absurd (show p∈([]:List (Addr×Obj)) from hp) (by simp),e0.hok.kept hk,?_⟩
 ·exact name_of_addr x.apart (KD h1) (KD h2)
 ·have hy:scope.names.lookup y=some .cell\/scope.names.lookup y=some .free:=hy;rcases hy with hy | hy
  ·exact qg hy
  ·exact absurd rfl (S.C8 _ (KD hy))
 ·exact Ll (x.above y c (KD h))
 ·have hi:i < vs.length:=by
   unfold start at h2;by_cases hi:i < vs.length
   ·exact hi
   ·rw [IP (by simpa using hi)] at h2;rw [List.getElem?_replicate] at h2;split at h2 <;> cases h2
  have ha:vs[i]?=some v:=by
   unfold start at h2;rw [Je (by simpa using hi),Jd] at h2;cases e:vs[i]? with
   | none=>rw [e] at h2;cases h2
   | some a=>rw [e] at h2;cases h2;rfl
  obtain ⟨u,hu,rv⟩:=r.get ha;have hp:ps[i]?=some y:=by
   rw [<- S.pre,List.getElem?_take_of_lt (by omega)];exact h1
  have ndP:ps.Nodup:=by rw [<- S.pre];exact S.nd.sublist (List.take_sublist _ _)
  refine ⟨u,rv,?_⟩;rcases S.par y (Jn hp) with k | k
  ·exact .inl ⟨k,mM ndP hp hu k⟩
  ·obtain ⟨c,e⟩:=qg (n:=s.heap.objs.size+1) k;refine .inr ⟨.inl k,c,e,?_⟩;have q:=x.cell y c e;rw [mE ndP hp hu (by show scope.names.lookup y≠_;rw [k];decide)] at q;exact q
 ·exact e0.hok.fresh (Ll (x.above y c (KD h)))
 ·unfold start;show _=N.length;rw [IJ,IK,Lo];omega
theorem E7 {CX:CXT} {P:Program} {w:World} {K:Fg} {mg:Str->Option Value} {base:Heap} {k:Nat} {f:Addr} {name qual:Str} {params:Arguments} {body:List Stmt} {scope:Scope} {dV kV doc pm cdv ct oc:Value} {an od:Option Addr}
  {osl:Array (Option Value)} {N ps:List Str} {sp:Sp} (lk:K.lookup f=some ⟨oc,od,.func (PySem.W.fnOf name qual params body scope dV kV doc pm an cdv ct),osl⟩) (hcd:PySem.W.codeIn K cdv qual=true) (S:aH N ps scope)
  (len:∀ vs H Q E,sp vs H Q E->vs.length=ps.length)
  (hbody:∀ (A:Around) (outer:List Env) (s:Shared) (H:Hp) (vs:List V) (Q:VK) (E:XK),cp k (A.deeper (envOfC qual scope s.heap.objs.size f cdv))->sp vs H Q E ->
   ∃ t,PSs (fm CX P w K mg base N qual scope f cdv A outer s H E) body t/\t { nx:=fun _ H'=>Q .non H',rt:=Q } (start N vs) H) :
  dU P w K mg base CX (k+1) f (PySem.W.fnOf name qual params body scope dV kV doc pm an cdv ct) ps sp:=by
 refine ⟨len,fun A outer s H args us vs Q E hr e0 hb r hsp=>?_⟩;have hl:=len _ _ _ _ hsp;have KX:K.In s.heap:=e0.mod.kin.keeps fun b o e=>(e0.bs b o e).1;have lim:s.heap.NoLimit:=e0.mod.nolimit.keeps fun b o e=>(e0.bs b o e).1;have hkind:∀ y∈ps.zip us,scope.names.lookup y.1=some .local\/(scope.names.lookup y.1=some .cell/\((cellsFrom (s.heap.objs.size+1) scope.names []).lookup y.1).isSome=true):=fun ⟨n,v⟩ hy=>by
  rcases S.par n (List.of_mem_zip hy).1 with q | q
  ·exact .inl q
  ·exact .inr ⟨q,PySem.W.cellsFrom_some _ _ _ (.inl q)⟩
 refine codeAny_call_function hr.depth (KX _ _ lk) rfl S.co S.gen rfl (PySem.W.codeRec_of KX hcd) (hb _ _ _ _ ?_);refine wpAny_newFunctionEnv_cells S.kind hkind fun env he s1 x=>?_;subst he;refine ⟨lim.keeps x.toInCall.keep,codeAny_func ?_⟩;obtain ⟨t,ht,hq⟩:=hbody A outer s H vs Q E (hr.deeper _) hsp;have I:Inv (fm CX P w K mg base N qual scope f cdv A outer s H E) [] (start N vs) H s1:=rK S hr.hd e0 hl r x;refine JH (ht [] s1 (start N vs) H _ I hq) (fun fl s' hs=>?_) fun e s' hs=>hs;have fin:∀ {σ':St} {H':Hp} {v:V} {u:Value},Inv (fm CX P w K mg base N qual scope f cdv A outer s H E) [] σ' H' s'->RelV v u->Q v H'->CE outer P w H s Q u s' :=
  fun {σ' H' v u} J rv q=>⟨v,H',J.os,J.bare,J.base,J.hok,rv,q⟩
 cases fl with
 | ret u =>
  obtain ⟨v,σ',H',J,rv,q⟩:=hs;exact fin J rv q
 | next =>
  obtain ⟨σ',H',J,q⟩:=hs;exact fin (v:=V.non) (u:=Value.none) J rfl q
 | brk =>
  obtain ⟨_,_,_,q⟩:=hs;exact False.elim q
 | cont =>
  obtain ⟨_,_,_,q⟩:=hs;exact False.elim q
end L2
namespace L2
open PySem PySem.Spec PyProof.Rows
section
variable {X:Cx} {x:Str} {p pos:Pos} {e:Expr} {es:List Expr} {t:TA} {id T:String} {r:List V->Hp->VK->Prop}
def tCB (r:List V->Hp->VK->Prop) (t:TA):TE:=fun σ H Q=>t σ H fun vs H1=>r vs H1 Q
theorem vL (hc:bM X (.builtin id) r) (hg:Gl X x) (hm:X.mg x=none) (hv:bootBuiltins x=some (.builtin id)) (ha:PA X (e :: es) t) (hn:x ≠ "__name__" := by decide) (hdb:(x==("__debug__" : Str))=false:=by decide)
  (he:starEach (e :: es) X.env=(false,eval e X.env) :: starEach es X.env:=by rfl) (hpl:(backTo pos (starEach es X.env)).any (·.1)=false:=by rfl):PE X (.Call (.Name x p) (e :: es) [] pos) (tCB r t):=by
 intro pins s σ H Q I h;refine wpAny_Call_Name_kw (nC I hg hm hv ?_ hn hdb);exact PyProof.Rows.callWith_builtin1 (thn (ha pos pins s σ H _ I h) fun us s1 ⟨vs,H1,I1,r1,q1⟩=>hc pins s1 σ H1 vs us Q I1 r1 q1) he hpl
theorem ub (hc:bM X (.type T) r) (hg:Gl X x) (hm:X.mg x=none) (hv:bootBuiltins x=some (.type T)) (ha:PA X (e :: es) t) (hn:x ≠ "__name__" := by decide) (hdb:(x==("__debug__" : Str))=false:=by decide)
  (he:starEach (e :: es) X.env=(false,eval e X.env) :: starEach es X.env:=by rfl) (hpl:(backTo pos (starEach es X.env)).any (·.1)=false:=by rfl):PE X (.Call (.Name x p) (e :: es) [] pos) (tCB r t):=by
 intro pins s σ H Q I h;refine wpAny_Call_Name_kw (nC I hg hm hv ?_ hn hdb);exact PyProof.Rows.callWith_type1 (thn (ha pos pins s σ H _ I h) fun us s1 ⟨vs,H1,I1,r1,q1⟩=>hc pins s1 σ H1 vs us Q I1 r1 q1) he hpl
end
end L2
namespace HT
open PySem PyProof.Rows
section
open PySem.SeqAt
open PySem.AutoSeq1 (wpAny_loadPart')
open PySem.MeetsSeq PySem.MeetsSeq2 PySem.MeetsSeq3
end
section
variable {prog:Program} {w:World} {A:Around} {E:Value->Shared->Prop} {s:Shared}
theorem yS {t b:Addr} {vs ws:List Value} {Q:Value->Shared->Prop} (ht:IsTup s.heap t vs.toArray) (hb:IsTup s.heap b ws.toArray) (hv:vs≠[])
  (h1:ws=[]->Q (.ref t) s) (h2:ws≠[]->Q (.ref s.heap.objs.size) { s with heap:=s.heap.push { cls:=.type "tuple", data:=.seq (vs++ws).toArray } })
  (hsz:vs.length+ws.length<=sizeLine):wpAny (model prog w) A (binaryOp .Add (.ref t) (.ref b)) Q E s:=by
 obtain ⟨⟨cls,dd,data,sl⟩,ho,hc,n,hd⟩:=id ht;obtain ⟨⟨cls2,dd2,data2,sl2⟩,ho2,hc2,n2,hd2⟩:=id hb;simp only at hc hd hc2 hd2;subst hc hd hc2 hd2;have e:vs.toArray++ws.toArray=(vs++ws).toArray:=by simp
 by_cases hw:ws=[]
 ·exact concat_meets ⟨_,ho,rfl⟩ ⟨_,ho2,rfl⟩ noFill_tuple_add seq_tuple_add PySem.F.slot_tuple_add PySem.F.entry_tuple_add (PySem.F.args_tuple_add_2 _ _)
   (tuple_addW1 t b vs.toArray ws.toArray n n2 dd dd2 sl sl2 (by simpa using hv) (by simp [hw])) ⟨ho,ho2,h1 hw⟩
 ·refine concat_meets ⟨_,ho,rfl⟩ ⟨_,ho2,rfl⟩ noFill_tuple_add seq_tuple_add PySem.F.slot_tuple_add PySem.F.entry_tuple_add (PySem.F.args_tuple_add_2 _ _)
   (tuple_addW2 t b vs.toArray ws.toArray n n2 dd dd2 sl sl2 (by simpa using hv) (by simpa using hw) (by rw [IW,IW];exact hsz)) ⟨ho,ho2,?_⟩
  rw [e];exact h2 hw
def sIx (n d:Nat):Option Int->Nat
 | none=>d
 | some v=>if v < 0 then (v+(n:Int)).toNat else min v.toNat n
theorem pV (n d:Nat) (hd:d<=n) (o:Option Int):sIx n d o<=n:=by
 cases o with
 | none=>exact hd
 | some v =>
  show (if v < 0 then (v+(n:Int)).toNat else min v.toNat n)<=n;by_cases hv:v < 0
  ·rw [IX hv];omega
  ·rw [IV hv];exact Nat.min_le_right _ _
theorem sP (v:Int) (n d:Nat):(if v < 0 then max (v+(n:Int)) 0 else min v (n:Int))=((sIx n d (some v):Nat):Int):=by
 show (if v < 0 then max (v+(n:Int)) 0 else min v (n:Int))=(((if v < 0 then (v+(n:Int)).toNat else min v.toNat n):Nat):Int);by_cases hv:v < 0
 ·simp only [IX hv];omega
 ·simp only [IV hv];omega
theorem qK (lo hi:Option Int) (n:Nat):Builtin.Slice.sliceAdjust lo hi 1 (n:Int)=(((sIx n 0 lo:Nat):Int),((sIx n n hi:Nat):Int)):=by
 have h1:¬((1:Int) < 0):=by omega
 unfold Builtin.Slice.sliceAdjust;simp only [h1,KG];refine Prod.ext ?_ ?_
 ·cases lo with
  | none=>rfl
  | some v=>exact sP v n 0
 ·cases hi with
  | none=>rfl
  | some v=>exact sP v n n
theorem qo (i j:Nat):Builtin.Slice.slicePlaces (i:Int) (j:Int) 1=j - i:=by
 unfold Builtin.Slice.slicePlaces;have h1:(1:Int) > 0:=by omega
 simp only [h1,K8,Int.ediv_one];split <;> omega
theorem kb {v:Value} {o:Option Int} {Q:Option Int->Shared->Prop} (p:IsPart v o) (h:Q o s):wpAny (model prog w) A (Builtin.Slice.slicePartIndex v) Q E s:=by
 cases p with
 | none=>exact slicePart_none h
 | int i t=>exact slicePart_int h
theorem iK {sl:Addr} {vl vu:Value} {lo hi:Option Int} {n:Nat} {Q:Int×Int×Nat->Shared->Prop} (hs:s.heap.IsSliceOf sl vl vu .none) (pl:IsPart vl lo) (pu:IsPart vu hi)
  (h:Q (((sIx n 0 lo:Nat):Int),1,sIx n n hi - sIx n 0 lo) s):wpAny (model prog w) A (Builtin.Slice.sliceApplied (.ref sl) (pure (n:Int))) Q E s:=by
 obtain ⟨os,hos,hcs,hds⟩:=id hs;unfold Builtin.Slice.sliceApplied Builtin.Slice.sliceFields;refine IH (IH (wpAny_field hos hds (x:=vl) rfl (IH (wpAny_field hos hds (x:=vu) rfl (IH (wpAny_field hos hds (x:=.none) rfl (IQ ?_)))))));refine IH (slicePart_none ?_);show wpAny _ _ (if ((1:Int)==0)=true then _ else _) _ _ s;rw [IV (by decide)];refine IH (kb pl (IH (kb pu (IH (IQ ?_)))));show wpAny _ _ (match Builtin.Slice.sliceAdjust lo hi 1 (n:Int) with | (lo,hi)=>pure (lo,(1:Int),Builtin.Slice.slicePlaces lo hi 1)) _ _ s;rw [qK lo hi n];show wpAny _ _ (pure (((sIx n 0 lo:Nat):Int),(1:Int),Builtin.Slice.slicePlaces ((sIx n 0 lo:Nat):Int) ((sIx n n hi:Nat):Int) 1)) _ _ s;rw [qo];exact IQ h
theorem vP (xs:Array Value) (i k:Nat):((List.range k).filterMap fun (m:Nat)=>xs[((i:Int)+(m:Int)*1).toNat]?).toArray=((xs.toList.drop i).take k).toArray:=by
 have e:(fun (m:Nat)=>xs[((i:Int)+(m:Int)*1).toNat]?)=fun m=>xs[i+m]?:=by
  funext m;have:((i:Int)+(m:Int)*1).toNat=i+m:=by omega
  rw [this]
 rw [e];have:=pick_run xs i k;rw [List.filterMap_map] at this;have e2:((fun x=>xs[x]?)∘fun x=>i+x)=fun m=>xs[i+m]?:=rfl;rw [e2] at this;rw [this]
theorem gY {t sl:Addr} {items:Array Value} {vl vu:Value} {lo hi:Option Int} {Q:Value->Shared->Prop} (ht:IsTup s.heap t items) (hs:s.heap.IsSliceOf sl vl vu .none) (pl:IsPart vl lo) (pu:IsPart vu hi)
  (hw:¬(sIx items.size 0 lo=0/\sIx items.size items.size hi=items.size))
  (h:Q (.ref s.heap.objs.size) { s with heap:=s.heap.push { cls:=.type "tuple", data:=.seq ((items.toList.drop (sIx items.size 0 lo)).take (sIx items.size items.size hi - sIx items.size 0 lo)).toArray } })
  (hsz:items.size<=sizeLine):wpAny (model prog w) A (getItem (.ref t) (.ref sl)) Q E s:=by
 have htake:sizeOk (.seq ((items.toList.drop (sIx items.size 0 lo)).take (sIx items.size items.size hi - sIx items.size 0 lo)).toArray):=by
  show ((items.toList.drop (sIx items.size 0 lo)).take (sIx items.size items.size hi - sIx items.size 0 lo)).toArray.size<=sizeLine;rw [IW,JN,Kk,Kg];omega
 have hj:sIx items.size items.size hi<=items.size:=pV _ _ (IY _) hi;obtain ⟨os,hos,hcs,hds⟩:=id hs;have hTs:s.TypeIs (.ref sl) "slice" := ⟨os,hos,hcs⟩;unfold getItem;try with_reducible refine Ka ?_
 first | refine IH (IQ ?_) | skip
 refine IH (wpAny_sequenceKey ht.typeIs (by decide) ?_)
 refine IH (Kq (name:=Str.ofString "__getitem__") ht.typeIs PyProof.Rows.slot_tuple_getitem
  (Kp PyProof.Rows.slot_tuple_getitem ht.typeIs entry_tuple_getitem ?_ (args_tuple_getitem _ _)))
 show wpAny _ _ (Builtin.Tuple.tupleItemsOf (.ref t)>>=_) _ _ s;refine IH (tupleItemsOf_ ht ?_);refine IH (wpAny_typeOf hTs ?_);rw [IX (by decide)];refine IH (iK hs pl pu ?_);have hno:¬((((sIx items.size 0 lo:Nat):Int)==0&&(1:Int)==1&&(sIx items.size items.size hi - sIx items.size 0 lo)==items.size)=true):=by
  intro q;rw [JL,JL] at q;have q1:((sIx items.size 0 lo:Nat):Int)=0:=eq_of_beq q.1.1;have q2:sIx items.size items.size hi - sIx items.size 0 lo=items.size:=eq_of_beq q.2;exact hw ⟨by omega,by omega⟩
 show wpAny _ _ (if (((sIx items.size 0 lo:Nat):Int)==0&&(1:Int)==1&&(sIx items.size items.size hi - sIx items.size 0 lo)==items.size)=true then _ else _) _ _ s;rw [IV hno,vP];first
  | exact IH (m:=Builtin.Tuple.tupleExact _) (Kc (IQ ⟨_,rfl,IQ h⟩) htake)
  | exact IH (m:=Builtin.Tuple.tupleExact _) (Kc (IH (IQ (IQ ⟨_,rfl,IQ h⟩))) htake)
  | exact IH (IH (m:=Builtin.Tuple.tupleExact _) (Kc (IQ (IQ ⟨_,rfl,IQ h⟩)) htake))
  | exact IH (IH (m:=Builtin.Tuple.tupleExact _) (Kc (IQ ⟨_,rfl,IQ h⟩) htake))
end
end HT
namespace L2
open PySem PySem.Spec PyProof.Rows
abbrev TO:=St->Hp->(Option Int->Hp->Prop)->Prop
def PO (X:Cx) (e:Option Expr) (t:TO):Prop :=
 ∀ (pins:List (Addr×Obj)) (s:Shared) (σ:St) (H:Hp) (Q:Option Int->Hp->Prop),Inv X pins σ H s->t σ H Q ->
  wpAny (model X.prog X.w) X.A (evalPart e X.env) (fun u s'=>∃ o H',Inv X pins σ H' s'/\IsPart u o/\Q o H') X.xe s
def jL:TO:=fun _ H Q=>Q none H
def vH (t:TE):TO:=fun σ H Q=>t σ H fun x H1=>∃ i,x=.int i/\Q (some i) H1
section
variable {X:Cx} {e:Expr} {te:TE} {lo hi:Option Expr} {tl th:TO} {pos p2:Pos}
theorem yq:PO X none jL:=by
 intro pins s σ H Q I h;rw [evalPart_none];exact IQ ⟨none,H,I,.none,h⟩
theorem z7 (h:PE X e te):PO X (some e) (vH te):=by
 intro pins s σ H Q I hw;rw [evalPart_some];refine thn (h pins s σ H _ I hw) fun u s1 ⟨x,H1,I1,r1,q1⟩=>?_;obtain ⟨i,rfl,q⟩:=q1;obtain ⟨t,rfl⟩:=r1;exact ⟨some i,H1,I1,.int i t,q⟩
def SlR (X:Cx) (r:V->Option Int->Option Int->Hp->VK->Prop):Prop :=
 ∀ (pins:List (Addr×Obj)) (s:Shared) (σ:St) (H:Hp) (x:V) (v vl vu:Value) (lo hi:Option Int) (sl:Addr) (Q:VK),Inv X pins σ H s->RelV x v->s.heap.IsSliceOf sl vl vu .none->IsPart vl lo->IsPart vu hi->r x lo hi H Q ->
  ∃ T id,typeLookup (.type T) "__getitem__" = pure (some (.builtin id))/\s.TypeIs v T/\wpAny (model X.prog X.w) X.A (getItem v (.ref sl)) (EP X pins σ Q) X.xe s
theorem SlR.or {r r':V->Option Int->Option Int->Hp->VK->Prop} (h:SlR X r) (h':SlR X r'):SlR X (fun x lo hi H Q=>r x lo hi H Q\/r' x lo hi H Q):=by
 intro pins s σ H x v vl vu lo hi sl Q I rx hs pl pu q;rcases q with q | q
 ·exact h pins s σ H x v vl vu lo hi sl Q I rx hs pl pu q
 ·exact h' pins s σ H x v vl vu lo hi sl Q I rx hs pl pu q
def tSl (r:V->Option Int->Option Int->Hp->VK->Prop) (te:TE) (tl th:TO):TE:=fun σ H Q=>te σ H fun x H1=>tl σ H1 fun l H2=>th σ H2 fun u H3=>r x l u H3 Q
theorem vM {r:V->Option Int->Option Int->Hp->VK->Prop} (hr:SlR X r) (he:PE X e te) (hl:PO X lo tl) (hu:PO X hi th):PE X (.Subscript e (.Slice lo hi none p2) pos) (tSl r te tl th):=by
 intro pins s σ H Q I h;refine Subscript_ (thn (he pins s σ H _ I h) fun v s1 ⟨x,H1,I1,r1,q1⟩=>?_);refine wpAny_Slice (thn (hl pins s1 σ H1 _ I1 q1) fun vl s2 ⟨l,H2,I2,pl,q2⟩=>thn (hu pins s2 σ H2 _ I2 q2) fun vu s3 ⟨u,H3,I3,pu,q3⟩=>?_);rw [evalPart_none];refine IQ ?_;have I4:Inv X pins σ H3 { s3 with heap:=s3.heap.push { cls:=.type "slice", data:=.fields #[vl,vu,.none] } }:=I3.kept (t':=s3.toks) fun b ob q=>Ja _ q;obtain ⟨T,id,hT,ht,hg⟩:=hr pins { s3 with heap:=s3.heap.push { cls:=.type "slice", data:=.fields #[vl,vu,.none] } } σ H3 x v vl vu l u s3.heap.objs.size Q I4 r1 (Heap.IsSliceOf.new ..) pl pu q3;show wpAny (model X.prog X.w) X.A (subscriptTail e (.Slice lo hi none p2) v (.ref s3.heap.objs.size)) (EP X pins σ Q) X.xe { s3 with heap:=s3.heap.push { cls:=.type "slice", data:=.fields #[vl,vu,.none] } };exact tail_any (ops:=[.ref s3.heap.objs.size,v]) ht hT hg (by with_unfolding_all rfl)
def vp (xs:List V) (lo hi:Option Int):List V:=(xs.drop (HT.sIx xs.length 0 lo)).take (HT.sIx xs.length xs.length hi - HT.sIx xs.length 0 lo)
theorem jb (xs:List V) (lo hi:Option Int):(vp xs lo hi).length<=xs.length:=by
 unfold vp;rw [JN,Kk];omega
def Ge (K:Fg):V->Option Int->Option Int->Hp->VK->Prop:=fun x lo hi H Q=>∃ a xs,x=.ref a/\SqT K H a xs /\
 ¬(HT.sIx xs.length 0 lo=0/\HT.sIx xs.length xs.length hi=xs.length)/\∀ p,H p=none->Q (.ref p) (upd H p (.tup (vp xs lo hi)))
theorem Am:SlR X (Ge X.K):=by
 intro pins s σ H x v vl vu lo hi sl Q I rx hs pl pu h;obtain ⟨a,xs,rfl,hx,hw,q⟩:=h;cases rx;obtain ⟨its,r,ht,hz⟩:=I.tuple hx;have hlen:its.toArray.size=xs.length:=by rw [IW];exact r.length.symm
 refine ⟨"tuple", _,PyProof.Rows.slot_tuple_getitem.lookup,ht.typeIs,?_⟩;refine HT.gY ht hs pl pu (by rw [hlen];exact hw) ?_ (by rw [hlen];exact hz);rw [hlen];refine ⟨.ref s.heap.objs.size,_,I.laid (t':=s.toks) (o:=.tup (vp xs lo hi)) (fun b ob q=>Ja _ q) (IY _) ?_,rfl,q _ (I.hok.fresh (IY _))⟩;exact ⟨Ju (jb xs lo hi) hz,_,(r.drop (HT.sIx xs.length 0 lo)).take (HT.sIx xs.length xs.length hi - HT.sIx xs.length 0 lo),IsTup.new _ _⟩
def Aw (K:Fg):R2:=fun x y H Q=>∃ a b xs ys,x=.ref a/\y=.ref b/\SqT K H a xs/\SqT K H b ys/\xs≠[]/\xs.length+ys.length<=sizeLine /\
 (ys=[]->Q (.ref a) H)/\(ys≠[]->∀ p,H p=none->Q (.ref p) (upd H p (.tup (xs++ys))))
theorem Vals.oS {xs:List V} {us:List Value} (r:Vals xs us):us=[]↔xs=[]:=by
 cases r with
 | nil=>simp
 | cons _ _=>simp
theorem yT:OpR X (binaryOp .Add) (Aw X.K):=by
 intro pins s σ H x y v u Q I rx ry h;obtain ⟨a,b,xs,ys,rfl,rfl,ha,hb,hx,hz,q1,q2⟩:=h;cases rx;cases ry;obtain ⟨its,r1,p1,_⟩:=I.tuple ha;obtain ⟨its2,r2,p2,_⟩:=I.tuple hb;refine HT.yS p1 p2 (fun z=>hx (r1.oS.mp z)) (fun z=>⟨.ref a,H,I,rfl,q1 (r2.oS.mp z)⟩) (fun z=>?_) (by rw [<- r1.length,<-r2.length];exact hz);refine ⟨.ref s.heap.objs.size,_,I.laid (t':=s.toks) (o:=.tup (xs++ys)) (fun b ob q=>Ja _ q) (IY _) ?_,rfl,q2 (fun w=>z (r2.oS.mpr w)) _ (I.hok.fresh (IY _))⟩;exact ⟨by rw [IJ];exact hz,_,r1.append r2,IsTup.new _ _⟩
end
end L2
namespace L2
open PySem PySem.Spec PyProof.Rows
def ixN (n:Nat) (i:Int):Option Nat:=if 0<=i then (if i < n then some i.toNat else none) else if -(n:Int)<=i then some (i+n).toNat else none
def atI {α:Type} (xs:List α) (i:Int):Option α:=(ixN xs.length i).bind fun j=>xs[j]?
theorem yA {n:Nat} {i:Int} {j:Nat} (h:ixN n i=some j):seqIndex? i n=some j/\j < n/\-(n:Int)<=i/\i < n:=by
 unfold ixN at h;by_cases h0:0<=i
 ·rw [IX h0] at h;by_cases h1:i < n
  ·rw [IX h1] at h;have e:i.toNat=j:=J1 h;exact ⟨by rw [seqIndex_of h0 h1,e],by omega,by omega,h1⟩
  ·rw [IV h1] at h;cases h
 ·rw [IV h0] at h;by_cases h1:-(n:Int)<=i
  ·rw [IX h1] at h;have e:(i+n).toNat=j:=J1 h;exact ⟨by rw [seqIndex_neg (by omega) h1,e],by omega,h1,by omega⟩
  ·rw [IV h1] at h;cases h
theorem nU {α:Type} {xs:List α} {i:Int} {v:α} (h:atI xs i=some v):∃ j,seqIndex? i xs.length=some j/\xs[j]?=some v/\j < xs.length/\-(xs.length:Int)<=i/\i < xs.length:=by
 unfold atI at h;cases e:ixN xs.length i with
 | none=>rw [e] at h;cases h
 | some j =>
  rw [e] at h;obtain ⟨h1,h2,h3,h4⟩:=yA e;exact ⟨j,h1,h,h2,h3,h4⟩
theorem i9 {α:Type} {xs:List α} {j:Nat} {v:α} (h:xs[j]?=some v):atI xs (j:Int)=some v:=by
 have hj:j < xs.length:=(IL.mp h).1;have e:ixN xs.length (j:Int)=some j:=by
  unfold ixN;rw [IX (by omega),IX (by omega)];simp
 unfold atI;rw [e];exact h
def sO (b:Expr):Prop:=∀ o i,subscripted b false o i=operate [o,i] (getItem o i)
def IxR (X:Cx) (r:R2):Prop :=
 ∀ (value slice:Expr) (pins:List (Addr×Obj)) (s:Shared) (σ:St) (H:Hp) (x y:V) (v u:Value) (Q:VK),Inv X pins σ H s->RelV x v->RelV y u->r x y H Q ->
  subscripted slice false v u=operate [v,u] (getItem v u)->wpAny (model X.prog X.w) X.A (subscriptTail value slice v u) (EP X pins σ Q) X.xe s
def MtR (X:Cx) (id:String) (r:V->List V->Hp->VK->Prop):Prop :=
 ∀ (pins:List (Addr×Obj)) (s:Shared) (σ:St) (H:Hp) (x:V) (xs:List V) (v:Value) (us:List Value) (Q:VK),Inv X pins σ H s->RelV x v->Vals xs us->r x xs H Q ->
  wpAny (model X.prog X.w) X.A (call (.builtin id) (v :: us)) (EP X pins σ Q) X.xe s
section
variable {X:Cx} {a b:Expr} {ta tb:TE} {pos:Pos}
theorem IxR.or {r r':R2} (h:IxR X r) (h':IxR X r'):IxR X (fun x y H Q=>r x y H Q\/r' x y H Q):=by
 intro value slice pins s σ H x y v u Q I rx ry q hs;rcases q with q | q
 ·exact h value slice pins s σ H x y v u Q I rx ry q hs
 ·exact h' value slice pins s σ H x y v u Q I rx ry q hs
theorem EG {r:R2} (hr:IxR X r) (ha:PE X a ta) (hb:PE X b tb) (hs:sO b):PE X (.Subscript a b pos) (tOp r ta tb):=by
 intro pins s σ H Q I h;exact Subscript_ (Ei ha hb I h fun v u s2 x y H2 I2 rx ry q=>hr a b pins s2 σ H2 x y v u Q I2 rx ry q (hs _ _))
def Hi (K:Fg):R2:=fun x y H Q=>∃ p xs i v,x=.ref p/\y=.int i/\SqL K H p xs/\atI xs i=some v/\Q v H
def G4 (K:Fg):R2:=fun x y H Q=>∃ p xs i v,x=.ref p/\y=.int i/\SqT K H p xs/\atI xs i=some v/\Q v H
def G6:R2:=fun x y H Q=>∃ z i c,x=.str z/\y=.int i/\z.length<=sizeLine/\atI z.cps.toList i=some c/\Q (.str ⟨#[c]⟩) H
theorem yI:IxR X (Hi X.K):=by
 intro value slice pins s σ H x y v u Q I rx ry h hs;obtain ⟨p,xs,i,z,rfl,rfl,hq,he,q⟩:=h;cases rx;obtain ⟨t,rfl⟩:=ry;obtain ⟨its,r,pl,hz⟩:=I.list hq;obtain ⟨j,h1,h2,h3,h4,h5⟩:=nU he;obtain ⟨w,ew,rw'⟩:=r.get h2;have hl:=r.length;have hn:=me;have fin:EP X pins σ Q w s:=⟨z,H,I,rw',q⟩;by_cases h0:0<=i
 ·have hj:i.toNat=j:=by
   rw [seqIndex_of h0 h5] at h1;exact J1 h1
  exact item_listR pl.isList h0 (by omega) (by rw [hj];simpa using ew) fin hs
 ·have hj:(i+(its.toArray.size:Int)).toNat=j:=by
   rw [seqIndex_neg (by omega) h4] at h1;rw [IW,<-hl];exact J1 h1
  exact subscriptTail_builtinR (x:=w) pl.isList.typeIs slot_list_getitem.lookup
   (wpAny_getItem_list_neg (Q:=fun r s'=>r=w/\EP X pins σ Q r s') pl.isList (by omega) (by rw [IW] <;> omega) (by omega) (by rw [hj];simpa using ew) ⟨rfl,fin⟩) hs
theorem BD:IxR X (G4 X.K):=by
 intro value slice pins s σ H x y v u Q I rx ry h hs;obtain ⟨p,xs,i,z,rfl,rfl,hq,he,q⟩:=h;cases rx;obtain ⟨t,rfl⟩:=ry;obtain ⟨its,r,pl,hz⟩:=I.tuple hq;obtain ⟨j,h1,h2,h3,h4,h5⟩:=nU he;obtain ⟨w,ew,rw'⟩:=r.get h2;have hl:=r.length;have hn:=me;have fin:EP X pins σ Q w s:=⟨z,H,I,rw',q⟩;exact subscriptTail_builtinR (x:=w) pl.typeIs slot_tuple_getitem.lookup
  (getItem_tuple (j:=j) (Q:=fun r s'=>r=w/\EP X pins σ Q r s') pl (by omega) (by omega) (by rw [IW,<-hl];exact h1) (by simpa using ew) ⟨rfl,fin⟩) hs
theorem BJ:IxR X G6:=by
 intro value slice pins s σ H x y v u Q I rx ry h hs;obtain ⟨z,i,c,rfl,rfl,hz,he,q⟩:=h;obtain ⟨t,rfl⟩:=rx;obtain ⟨t',rfl⟩:=ry;obtain ⟨j,h1,h2,h3,h4,h5⟩:=nU he;have hl:z.cps.toList.length=z.length:=by simp [Str.length]
 rw [hl] at h1 h4 h5;have hn:=me
 exact tail_any (typeIs_str s z t) slot_str_getitem.lookup (getItem_str (c:=c) (by
  have e1:decide (i < -(2 ^ 63:Int))=false:=Jz (by omega);have e2:decide (i>=2 ^ 63)=false:=Jz (by omega)
  rw [e1,e2,Bool.or_false]) (by rw [h1];simpa using h2) ⟨.str ⟨#[c]⟩,H,I.tok _,⟨_,rfl⟩,q⟩) hs
def rIx (K:Fg):R2:=fun x y H Q=>Hi K x y H Q\/G4 K x y H Q\/G6 x y H Q
theorem Dy:IxR X (rIx X.K):=yI.or (BD.or BJ)
theorem mn (lo hi:Option Int) (n:Nat):(sliceBounds lo hi none n).1=((HT.sIx n 0 lo:Nat):Int)/\(sliceBounds lo hi none n).2.1=((HT.sIx n n hi:Nat):Int)/\(sliceBounds lo hi none n).2.2=1:=by
 refine ⟨?_,?_,rfl⟩
 ·cases lo with
  | none=>simp [sliceBounds,HT.sIx]
  | some i =>
   simp only [sliceBounds,HT.sIx,Option.getD_none,show (1:Int) > 0 by decide,K8];by_cases h:i < 0
   ·simp only [h,K8] <;> omega
   ·simp only [h,KG] <;> omega
 ·cases hi with
  | none=>simp [sliceBounds,HT.sIx]
  | some i =>
   simp only [sliceBounds,HT.sIx,Option.getD_none,show (1:Int) > 0 by decide,K8];by_cases h:i < 0
   ·simp only [h,K8] <;> omega
   ·simp only [h,KG] <;> omega
theorem lB (its:List Value) (lo hi:Option Int):slicePick its.toArray lo hi none=((its.drop (HT.sIx its.length 0 lo)).take (HT.sIx its.length its.length hi - HT.sIx its.length 0 lo)).toArray:=by
 obtain ⟨h1,h2,h3⟩:=mn lo hi its.toArray.size;unfold slicePick;rw [h1,h2,h3];simp only [sliceRange_one,pick_run,IW] <;> rfl
def Gm (K:Fg):V->Option Int->Option Int->Hp->VK->Prop:=fun x lo hi H Q=>∃ a xs,x=.ref a/\SqL K H a xs/\∀ p,H p=none->Q (.ref p) (upd H p (.lst (vp xs lo hi)))
theorem zB:SlR X (Gm X.K):=by
 intro pins s σ H x v vl vu lo hi sl Q I rx hs pl pu h;obtain ⟨a,xs,rfl,hx,q⟩:=h;cases rx;obtain ⟨its,r,ht,hz⟩:=I.list hx;have hlen:=r.length;refine ⟨"list", _,slot_list_getitem.lookup,ht.isList.typeIs,?_⟩;refine wpAny_getItem_list_slice ht.isList hs pl pu .none (by simp) ?_ (by rw [IW] <;> omega);rw [lB,<-hlen];refine ⟨.ref s.heap.objs.size,_,I.laid (t':=s.toks) (o:=.lst (vp xs lo hi)) (fun b ob q=>Ja _ q) (IY _) ?_,rfl,q _ (I.hok.fresh (IY _))⟩;exact ⟨Ju (jb xs lo hi) hz,_,0,(r.drop (HT.sIx xs.length 0 lo)).take (HT.sIx xs.length xs.length hi - HT.sIx xs.length 0 lo),Jt _ rfl⟩
theorem mV:OpR X (compareOp .NotIn) (fun x y H Q=>∃ i j,x=.str i/\y=.str j/\Q (.bl (!(!(Builtin.Str.occurrences j i 0 j.length 1).isEmpty))) H):=by
 intro pins s σ H x y v u Q I rx ry h;obtain ⟨i,j,rfl,rfl,q⟩:=h;obtain ⟨t,rfl⟩:=rx;obtain ⟨t',rfl⟩:=ry;exact notIn_str ⟨.bl _,H,I,rfl,q⟩
theorem mT:bM X (.type "list") (fun xs H Q=>∃ p ys,xs=[.ref p]/\(SqL X.K H p ys\/SqT X.K H p ys)/\∀ l,H l=none->Q (.ref l) (upd H l (.lst ys))):=by
 intro pins s σ H xs us Q I r h;obtain ⟨p,ys,rfl,hq,q⟩:=h;obtain ⟨u,rfl,rx⟩:=vals1 r;cases rx;have fin:∀ (its:List Value),Vals ys its->ys.length<=sizeLine->∀ (h':Heap) (c':Nat),(∀ b o',s.heap.get? b=some o'->h'.get? b=some o') ->
   h'.get? s.heap.objs.size=some { cls:=.type "list", dict:=none,data:=.seq its.toArray c',slots:=#[] }->EP X pins σ Q (.ref s.heap.objs.size) { s with heap:=h' }:=fun its r' hz h' c' kp e =>
  ⟨.ref s.heap.objs.size,_,I.laid (t':=s.toks) kp (IY _) (show b6 X.prog X.w _ h' _ (.lst ys) from ⟨hz,its,c',r',e⟩),rfl,q _ (I.hok.fresh (IY _))⟩
 rcases hq with hq | hq
 ·obtain ⟨its,r',pl,hz⟩:=I.list hq;have hlen:=r'.length;obtain ⟨o,ho,hc,n,hd⟩:=pl.isList;exact call_list_seq p (.inl rfl) ho hc hd (fun h' c' kp e=>fin its r' hz h' c' kp e) (by simp only [IW] <;> omega)
 ·obtain ⟨its,r',pl,hz⟩:=I.tuple hq;have hlen:=r'.length;obtain ⟨o,ho,hc,n,hd⟩:=pl;exact call_list_seq p (.inr rfl) ho hc hd (fun h' c' kp e=>fin its r' hz h' c' kp e) (by simp only [IW] <;> omega)
theorem lI:bM X (.type "tuple") (fun xs H Q=>∃ p ys,xs=[.ref p]/\((SqL X.K H p ys/\∀ l,H l=none->Q (.ref l) (upd H l (.tup ys)))\/(SqT X.K H p ys/\Q (.ref p) H))):=by
 intro pins s σ H xs us Q I r h;obtain ⟨p,ys,rfl,h⟩:=h;obtain ⟨u,rfl,rx⟩:=vals1 r;cases rx;rcases h with ⟨hq,q⟩ | ⟨hq,q⟩
 ·obtain ⟨its,r',pl,hz⟩:=I.list hq;have hlen:=r'.length;refine call_tuple_list pl.isList (fun h' kp=>?_) (by simp only [IW] <;> omega);have I1:Inv X pins σ H { s with heap:=h' }:=I.kept (t':=s.toks) kp;have I2:Inv X pins σ (upd H h'.objs.size (.tup ys)) { s with heap:=h'.push { cls:=.type "tuple", data:=.seq its.toArray } } :=
   I1.laid (t':=s.toks) (fun b o e=>Ja _ e) (IY _) (show b6 X.prog X.w _ _ _ (.tup ys) from ⟨hz,its,r',IsTup.new _ _⟩)
  exact ⟨.ref h'.objs.size,_,I2,rfl,q _ (I1.hok.fresh (IY _))⟩
 ·obtain ⟨its,r',pl,hz⟩:=I.tuple hq;exact call_tuple_same pl ⟨.ref p,H,I,rfl,q⟩
def tyV (K:Fg) (T:String) (x:V) (H:Hp):Prop:=match x with
 | .str _=>T = "str"
 | .int _=>T = "int"
 | .ref p=>(T = "list" /\ ∃ xs,SqL K H p xs)\/(T = "tuple" /\ ∃ o,K.lookup p=some o/\o.cls=.type "tuple" /\ o.dict=none) \/
   (T = "dict" /\ ((∃ kvs,H p=some (.dK kvs))\/(∃ kvs,H p=some (.dT kvs))\/∃ ep xs,H p=some (.dD ep xs)))\/(T = "set" /\ ∃ S n,H p=some (.set S n))
 | _=>False
theorem xu {pins:List (Addr×Obj)} {σ:St} {H:Hp} {s:Shared} {T:String} {x:V} {v:Value} (I:Inv X pins σ H s) (r:RelV x v) (ty:tyV X.K T x H) :
  s.TypeIs v T/\∀ a,v=.ref a->∃ ob,s.heap.get? a=some ob/\ob.dict=none:=by
 cases x with
 | str z =>
  obtain ⟨t,rfl⟩:=r;cases (show T = "str" from ty);exact ⟨typeIs_str s z t,fun _ e=>nomatch e⟩
 | int i =>
  obtain ⟨t,rfl⟩:=r;cases (show T = "int" from ty);exact ⟨typeIs_int s i t,fun _ e=>nomatch e⟩
 | ref p =>
  cases r;rcases ty with ⟨rfl,xs,hq⟩ | ⟨rfl,o,hk,hc,hd⟩ | ⟨rfl,hk⟩ | ⟨rfl,S,n,hk⟩
  ·obtain ⟨its,_,pl,_⟩:=I.list hq;refine ⟨pl.isList.typeIs,fun a e=>?_⟩;cases e;obtain ⟨o,n,e,c,hd,_⟩:=pl;exact ⟨o,e,hd⟩
  ·refine ⟨⟨o,I.kIn p o hk,hc⟩,fun a e=>?_⟩;cases e;exact ⟨o,I.kIn _ o hk,hd⟩
  ·have z:∃ o,s.heap.get? p=some o/\o.ExactDict:=by
    rcases hk with ⟨kvs,hk⟩ | ⟨kvs,hk⟩ | ⟨ep,xs,hk⟩
    ·obtain ⟨_,_,_,_,o,_,_,e,ex,_⟩:=I.hok p _ hk;exact ⟨o,e,ex⟩
    ·obtain ⟨_,_,_,_,o,_,_,e,ex,_⟩:=I.hok p _ hk;exact ⟨o,e,ex⟩
    ·obtain ⟨_,_,_,o,_,e,ex,_⟩:=I.hok p _ hk;exact ⟨o,e,ex⟩
   obtain ⟨o,e,ex⟩:=z;refine ⟨⟨o,e,ex.1⟩,fun a e2=>?_⟩;cases e2;exact ⟨o,e,ex.2.1⟩
  ·obtain ⟨o,_,_,_,e,ex,_⟩:=I.hok p _ hk;refine ⟨⟨o,e,ex.1⟩,fun a e2=>?_⟩;cases e2;exact ⟨o,e,ex.2.1⟩
 | _=>exact False.elim ty
def ET (K:Fg) (T:String) (r:V->List V->Hp->VK->Prop) (to:TE):TE:=fun σ H Q=>to σ H fun x H1=>tyV K T x H1/\r x [] H1 Q
def tBM (K:Fg) (T:String) (r:V->List V->Hp->VK->Prop) (to:TE) (t:TA):TE:=fun σ H Q=>to σ H fun x H1=>tyV K T x H1/\t σ H1 fun xs H2=>r x xs H2 Q
variable {o e:Expr} {es:List Expr} {to:TE} {t:TA} {name:Str} {apos cpos:Pos} {T id:String} {r:V->List V->Hp->VK->Prop}
theorem Bk (pa:PlainAttrs T) (slot:Slot T name id) (hty:typeOf (.builtin id)=pure (.type "method_descriptor")) (hm:MtR X id r) (ho:PE X o to)
  (hbase:attributeBase o name X.env (eval o X.env)=eval o X.env:=by rfl) (hline:(apos.endLine==cpos.line)=true:=by rfl):PE X (.Call (.Attribute o name apos) [] [] cpos) (ET X.K T r to):=by
 intro pins s σ H Q I h;refine wpAny_Call_method0_late hbase hline (thn (ho pins s σ H _ I h) fun v s1 ⟨x,H1,I1,r1,ty,q1⟩=>?_);obtain ⟨h1,h2⟩:=xu I1 r1 ty;exact ⟨T,id,pa,slot,hty,h1,h2,Calls.callWith_builtin rfl (PySem.evalArgs_none (hm pins s1 σ H1 x [] v [] Q I1 r1 .nil q1))⟩
theorem F7 (pa:PlainAttrs T) (slot:Slot T name id) (hty:typeOf (.builtin id)=pure (.type "method_descriptor")) (hm:MtR X id r) (ho:PE X o to) (ha:PA X (e :: es) t)
  (hbase:attributeBase o name X.env (eval o X.env)=eval o X.env:=by rfl)
  (hfew:((backTo cpos (starEach (e :: es) X.env)).all (fun x=>!x.1)&&(backToKw cpos (keywordEach [] X.env)).all (fun x=>x.1.isSome)
   && decide ((e :: es).length+([]:List Keyword).length+(if ([]:List Keyword).isEmpty then 0 else 1) < 30))=true:=by rfl)
  (hline:(apos.endLine==cpos.line)=true:=by rfl) (hs:starEach (e :: es) X.env=(false,eval e X.env) :: starEach es X.env:=by rfl) (hplain:(backTo cpos (starEach es X.env)).any (·.1)=false:=by rfl) :
  PE X (.Call (.Attribute o name apos) (e :: es) [] cpos) (tBM X.K T r to t):=by
 intro pins s σ H Q I h;refine wpAny_Call_method_late hbase hfew hline rfl (thn (ho pins s σ H _ I h) fun v s1 ⟨x,H1,I1,r1,ty,q1⟩=>?_);obtain ⟨h1,h2⟩:=xu I1 r1 ty;refine ⟨T,id,pa,slot,hty,h1,h2,?_⟩;have hA:=ha cpos pins s1 σ H1 _ I1 q1;rw [hs] at hA ⊢;refine Calls.callWith_builtin (by show (false||(backTo cpos (starEach es X.env)).any (·.1))=false;rw [hplain] <;> rfl) (Calls.evalArgs_plain ?_);exact thn hA fun us s2 ⟨vs,H2,I2,r2,q2⟩=>hm pins s2 σ H2 x vs v us Q I2 r1 r2 q2
end
end L2
namespace L2
open PySem PySem.Spec PyProof.Rows
def MtM (X:Cx) (id:String) (r:V->List V->Hp->VK->Prop):Prop :=
 ∀ (pins:List (Addr×Obj)) (s:Shared) (σ:St) (H:Hp) (x:V) (xs:List V) (v:Value) (us:List Value) (Q:VK),Inv X pins σ H s->RelV x v->Vals xs us->r x xs H Q ->
  wpAny (model X.prog X.w) X.A (call (.builtin id) (v :: us)) (EP X pins σ Q) X.xe s
theorem Vals.one:∀ {x:V} {us:List Value},Vals [x] us->∃ u,us=[u]/\RelV x u
 | _,_,.cons r .nil=>⟨_,rfl,r⟩
theorem Vals.zero:∀ {us:List Value},Vals [] us->us=[]
 | _,.nil=>rfl
theorem Vals.dropLast {xs:List V} {us:List Value} (h:Vals xs us):Vals xs.dropLast us.dropLast:=by
 induction h with
 | nil=>exact .nil
 | cons r t ih =>
  cases t with
  | nil=>exact .nil
  | cons q t'=>exact .cons r ih
theorem qX {α:Type} (l:List α):l.eraseIdx (l.length - 1)=l.dropLast:=by
 induction l with
 | nil=>rfl
 | cons a r ih =>
  cases r with
  | nil=>rfl
  | cons b r =>
   have e:(a :: b :: r).length - 1=((b :: r).length - 1)+1:=by
    have h1:(a :: b :: r).length=r.length+2:=rfl;have h2:(b :: r).length=r.length+1:=rfl;omega
   rw [e,List.eraseIdx_cons_succ,ih]
   all_goals rfl
section
variable {X:Cx} {pins:List (Addr×Obj)} {σ:St} {H:Hp} {s:Shared} {l b:Addr} {xs ys zs:List V}
theorem Inv.Eb {its its':List Value} {n:Nat} {f:Array Value->Array Value} {t':Nat} (I:Inv X pins σ H s) (hH:H l=some (.lst xs))
  (e:s.heap.get? l=some { cls:=.type "list", data:=.seq its.toArray n }) (hf:f its.toArray=its'.toArray) (hv:Vals ys its') (hz:ys.length<=sizeLine) :
  Inv X pins σ (upd H l (.lst ys)) { s with heap:=s.heap.update l (Obj.mapSeq f),toks:=t' }:=by
 have q:=PySem.IsL.update e f;rw [hf] at q;refine I.write (x:=l) (e:=l) (by rw [hH];exact trivial) (.inl rfl) (fun b' u hb hu=>(Kj s.heap (Obj.mapSeq f) (Ne.symm hb)).trans hu) ⟨_,q⟩ ?_;exact ⟨hz,its',_,hv,q⟩
theorem Inv.Ig {its:List Value} {t':Nat} (I:Inv X pins σ H s) (hv:Vals ys its) (hz:ys.length<=sizeLine) :
  Inv X pins σ (upd H s.heap.objs.size (.lst ys)) { s with heap:=s.heap.push { cls:=.type "list", data:=.seq its.toArray },toks:=t' } :=
 I.laid (fun _ _ q=>Ja _ q) (IY _) ⟨hz,its,0,hv,Jt _ rfl⟩
theorem Inv.fresh (I:Inv X pins σ H s):H s.heap.objs.size=none:=I.hok.fresh (IY _)
theorem Inv.Gw (I:Inv X pins σ H s) (hH:H l=some (.lst xs)):xs.length<=sizeLine/\∃ (its:List Value) (n:Nat),Vals xs its/\xs.length=its.length/\s.heap.get? l=some { cls:=.type "list", data:=.seq its.toArray n }:=by
 obtain ⟨z,its,n,r,e⟩:=I.hok l _ hH;exact ⟨z,its,n,r,r.length,e⟩
end
section
variable {X:Cx}
def rD:V->List V->Hp->VK->Prop:=fun x vs H Q=>∃ l xs y,x=.ref l/\vs=[y]/\H l=some (.lst xs)/\xs.length < sizeLine/\Q .non (upd H l (.lst (xs++[y])))
theorem lX:MtM X "list.append" rD:=by
 intro pins s σ H x vs v us Q I rx rv h;obtain ⟨l,xs,y,rfl,rfl,hH,hz,q⟩:=h;cases rx;obtain ⟨u,rfl,ru⟩:=rv.one;obtain ⟨z,its,n,r,hl,e⟩:=I.Gw hH;refine call_meets F.slot_list_append ⟨_,e,rfl⟩ F.entry_list_append (F.args_list_append_2 _ _) (PySem.list_append l its.toArray n u (by rw [IW];omega)) ⟨e,?_⟩;refine ⟨.non,_,I.Eb (its':=its++[u]) hH e (by simp) (r.append (.cons ru .nil)) ?_,rfl,q⟩;rw [IJ,Ku];omega
def Ij:V->List V->Hp->VK->Prop:=fun x vs H Q=>∃ l xs y,x=.ref l/\vs=[]/\H l=some (.lst xs)/\xs[xs.length - 1]?=some y/\Q y (upd H l (.lst xs.dropLast))
theorem He:MtM X "list.pop" Ij:=by
 intro pins s σ H x vs v us Q I rx rv h;obtain ⟨l,xs,y,rfl,rfl,hH,hy,q⟩:=h;cases rx;have hus:=rv.zero;subst hus;obtain ⟨z,its,n,r,hl,e⟩:=I.Gw hH;obtain ⟨u,hu,ru⟩:=r.get hy;have hy':its.toArray[its.toArray.size - 1]?=some u:=by
  show its.toArray[its.length - 1]?=some u;rw [<- Array.getElem?_toList,<-hl];exact hu
 refine call_meets F.slot_list_pop ⟨_,e,rfl⟩ F.entry_list_pop (F.args_list_pop_1 _) (MeetsSeq.list_pop_last l its.toArray n u hy' (by rw [IW];omega)) ⟨e,?_⟩;refine ⟨y,_,I.Eb (its':=its.dropLast) hH e ?_ r.dropLast ?_,ru,q⟩
 ·show its.toArray.eraseIdxIfInBounds (its.toArray.size - 1)=its.dropLast.toArray;rw [IW,List.eraseIdxIfInBounds_toArray,qX]
 ·rw [List.length_dropLast];omega
def x4:V->List V->Hp->VK->Prop:=fun x vs H Q=>∃ l xs,x=.ref l/\vs=[]/\H l=some (.lst xs)/\Q .non (upd H l (.lst []))
theorem wY:MtM X "list.clear" x4:=by
 intro pins s σ H x vs v us Q I rx rv h;obtain ⟨l,xs,rfl,rfl,hH,q⟩:=h;cases rx;have hus:=rv.zero;subst hus;obtain ⟨z,its,n,r,hl,e⟩:=I.Gw hH;refine call_meets F.slot_list_clear ⟨_,e,rfl⟩ F.entry_list_clear (F.args_list_clear_1 _) (AutoSeq1.list_clear_list_0 l its.toArray n (by rw [IW];omega)) ⟨e,?_⟩;exact ⟨.non,_,I.Eb (its':=[]) (ys:=[]) hH e rfl .nil (JZ _),rfl,q⟩
end
section
variable {prog:Program} {w:World} {A:Around} {E:Value->Shared->Prop} {s:Shared}
set_option maxRecDepth 100000 in
end
section
variable {X:Cx}
end
end L2
namespace L2
open PySem PySem.Spec PyProof.Rows
section
variable {κ:Type} [DecidableEq κ]
def putK (kvs:List (κ×V)) (k:κ) (v:V):List (κ×V) :=
 if (kvs.any fun kv=>decide (kv.1=k))=true then kvs.map (fun kv=>if kv.1=k then (kv.1,v) else kv) else kvs++[(k,v)]
theorem oj (kvs:List (κ×V)) (k:κ) (v:V):(putK kvs k v).length<=kvs.length+1:=by
 unfold putK;split
 ·rw [IK];omega
 ·rw [IJ,Jk,Ke];omega
theorem KV.any {kvs:List (κ×V)} {vs:List (κ×Value)} (r:KV kvs vs) (k:κ):(kvs.any fun kv=>decide (kv.1=k))=vs.any fun kv=>decide (kv.1=k):=by
 unfold KV at r;induction r with
 | nil=>rfl
 | cons h t ih=>rw [Ld,Ld,ih,h.1]
theorem KV.Iy {kvs:List (κ×V)} {vs:List (κ×Value)} (r:KV kvs vs) (k:κ) {y:V} {u:Value} (ry:RelV y u) :
  KV (kvs.map fun kv=>if kv.1=k then (kv.1,y) else kv) (vs.map fun kv=>if kv.1=k then (kv.1,u) else kv):=by
 unfold KV at r ⊢;induction r with
 | nil=>exact .nil
 | @cons p q ps qs h t ih =>
  rw [JK,JK];refine .cons ?_ ih;obtain ⟨h1,h2⟩:=h;by_cases e:p.1=k
  ·rw [IX e,IX (h1.symm.trans e)];exact ⟨h1,ry⟩
  ·rw [IV e,IV (fun z=>e (h1.trans z))];exact ⟨h1,h2⟩
theorem KV.put {kvs:List (κ×V)} {vs:List (κ×Value)} (r:KV kvs vs) (k:κ) {y:V} {u:Value} (ry:RelV y u):KV (putK kvs k y) (stored vs k u):=by
 unfold putK stored;rw [r.any k];by_cases e:(vs.any fun kv=>decide (kv.1=k))=true
 ·rw [IX e,IX e];exact r.Iy k ry
 ·rw [IV e,IV e];exact Paired.snoc r ⟨rfl,ry⟩
end
theorem Gf {P:Program} {w:World} {k:Key} {u:Value} (r:RelV (kV k) u):(bS P w).is k u=true:=by
 cases k with
 | inl i=>obtain ⟨t,e⟩:=(show ∃ t,u=Value.int i t from r);subst e;exact ot P w i t
 | inr x=>obtain ⟨t,e⟩:=(show ∃ t,u=Value.str x t from r);subst e;exact oK P w x t
section
variable {P:Program} {w:World} {H:Hp} {h:Heap} {a:Addr}
end
section
variable {X:Cx} {pins:List (Addr×Obj)} {σ:St} {H:Hp} {s:Shared} {a:Addr} {y v:V} {u r:Value} {o:Option V} {A:Around} {E:Value->Shared->Prop}
theorem Inv.big (I:Inv X pins σ H s):sysModules < s.heap.objs.size:=by
 have h:mainGlobals < s.heap.objs.size:=(I.mod.glob.keeps I.bk).lt;exact Nat.lt_trans (by decide) h
theorem n5 {h':Heap} {t':Nat} {ob:HO} (I:Inv X pins σ H s) (mu:Mut (H a)) (hs:Heap.SameBut a s.heap h') (he:∃ q,h'.get? a=some q) (new:b6 X.prog X.w (upd H a ob) h' a ob) :
  Inv X pins σ (upd H a ob) { s with heap:=h',toks:=t' } :=
 I.write (x:=a) (e:=a) mu (.inl rfl) (fun b q hb z=>(hs.2 b hb).trans z) he new
end
section
variable {X:Cx} {pins:List (Addr×Obj)} {σ:St} {H:Hp} {s:Shared} {a:Addr} {kvs:List (Key×V)} {k:Key} {u:Value} {A:Around} {E:Value->Shared->Prop}
end
def Hj (i:Expr):Prop:=∀ ov iv,subscripted i false ov iv=operate [ov,iv] (getItem ov iv)
theorem yH {prog:Program} {w:World} {A:Around} {E:Value->Shared->Prop} {s:Shared} {env:Env} {value slice:Expr} {pos:Pos} {T id:String} {Q:Value->Shared->Prop}
  (hl:typeLookup (.type T) "__getitem__" = pure (some (.builtin id))) (hs:Hj slice)
  (h:wpAny (model prog w) A (eval value env) (fun o s₁=>wpAny (model prog w) A (eval slice env) (fun i s₂=>s₂.TypeIs o T/\wpAny (model prog w) A (getItem o i) Q E s₂) E s₁) E s) :
  wpAny (model prog w) A (eval (.Subscript value slice pos) env) Q E s:=by
 refine Subscript_ (JH h (fun o s₁ h₁=>JH h₁ (fun i s₂ h₂=>?_) fun _ _ x=>x) fun _ _ x=>x);obtain ⟨hT,h₂⟩:=h₂;unfold subscriptTail;refine IH ?_;rw [getitemInPython_of_ne hT.not_modules];refine IH (Lm hT hl ?_);have fin:wpAny (model prog w) A (subscripted slice false o i) (fun r s₃=>wpAny (model prog w) A (letTemporaryGo value o r>>=fun _=>pure r) Q E s₃) E s₂:=by
  rw [hs o i];exact wpAny_operating (JH h₂ (fun r s₃ h₃=>IH (wpAny_letTemporaryGo (IQ h₃))) fun _ _ x=>x)
 first
  | exact IQ (IH fin)
  | exact IH (IQ (IH fin))
  | exact IH fin
section
variable {X:Cx} {o i e value:Expr} {pos pos' tpos:Pos} {td ty tv:TE}
end
section
variable {X:Cx} {pos:Pos}
end
def p5:List (TE×TE)->St->Hp->(List (V×V)->Hp->Prop)->Prop
 | [],_,H,Q=>Q [] H
 | (tk,tv) :: r,σ,H,Q=>tk σ H fun x H1=>tv σ H1 fun y H2=>p5 r σ H2 fun ps H3=>Q ((x,y) :: ps) H3
abbrev VV:List (V×V)->List (Value×Value)->Prop:=Paired fun p q=>RelV p.1 q.1/\RelV p.2 q.2
def PPs (X:Cx) (pos:Pos) (keys:List (Option Expr)) (values:List Expr) (trs:List (TE×TE)):Prop :=
 ∀ (pins:List (Addr×Obj)) (s:Shared) (σ:St) (H:Hp) (Q:List (V×V)->Hp->Prop),Inv X pins σ H s->p5 trs σ H Q ->
  wpAny (model X.prog X.w) X.A (evalPairs (pairTrees keys values X.env pos)) (fun vs s'=>∃ ps H',Inv X pins σ H' s'/\VV ps vs/\Q ps H') X.xe s
theorem zX {X:Cx} {pos:Pos}:PPs X pos [] [] []:=fun pins s σ H Q I h=>pairTrees_nil_walk ⟨[],H,I,.nil,h⟩
theorem wW {X:Cx} {pos:Pos} {k v:Expr} {ks:List (Option Expr)} {vs:List Expr} {tk tv:TE} {trs:List (TE×TE)} (hk:PE X k tk) (hv:PE X v tv) (hr:PPs X pos ks vs trs) :
  PPs X pos (some k :: ks) (v :: vs) ((tk,tv) :: trs):=fun pins s σ H Q I h =>
 pairTrees_cons_walk (thn (hk pins s σ H _ I h) fun u s1 ⟨x,H1,I1,rx,q1⟩=>thn (hv pins s1 σ H1 _ I1 q1) fun w2 s2 ⟨y,H2,I2,ry,q2⟩ =>
  thn (hr pins s2 σ H2 _ I2 q2) fun ws s3 ⟨ps,H3,I3,rel,q3⟩=>⟨(x,y) :: ps,H3,I3,.cons ⟨rx,ry⟩ rel,q3⟩)
def eQ (kvs more:List (Key×V)):List (Key×V):=more.foldl (fun acc kv=>putK acc kv.1 kv.2) kvs
theorem KV.merge:∀ {more:List (Key×V)} {rs:List (Key×Value)} {kvs:List (Key×V)} {vs:List (Key×Value)},KV more rs->KV kvs vs->KV (eQ kvs more) (merged vs rs):=by
 intro more rs kvs vs r;unfold KV at r;induction r generalizing kvs vs with
 | nil=>intro q;exact q
 | @cons p q ps qs h t ih =>
  intro r0;have e:KV (putK kvs p.1 p.2) (stored vs q.1 q.2):=by
   have:=r0.put p.1 h.2;rw [<- h.1];exact this
  exact ih e
theorem gw:∀ (more kvs:List (Key×V)),(eQ kvs more).length<=kvs.length+more.length
 | [],kvs=>by show kvs.length<=kvs.length+0;omega
 | p :: r,kvs=>by
  have h1:=gw r (putK kvs p.1 p.2);have h2:=oj kvs p.1 p.2;show (eQ (putK kvs p.1 p.2) r).length<=_;rw [Jk];omega
theorem kz {P:Program} {w:World}:∀ {kvs:List (Key×V)} {ws:List (Value×Value)},VV (kvs.map fun kv=>(kV kv.1,kv.2)) ws->∃ rs,Carries (bS P w) ws rs/\KV kvs rs
 | [],_,r=>by rw [List.map_nil] at r;cases r;exact ⟨[],True.intro,.nil⟩
 | p :: kvs,_,r=>by
  rw [JK] at r;cases r with
  | @cons a b as bs h t =>
   obtain ⟨rs,c,q⟩:=kz (P:=P) (w:=w) t;obtain ⟨b1,b2⟩:=b;exact ⟨(p.1,b2) :: rs,⟨Gf h.1,rfl,c⟩,.cons ⟨rfl,h.2⟩ q⟩
section
variable {X:Cx} {pins:List (Addr×Obj)} {σ:St} {H:Hp} {s:Shared} {a:Addr} {y d:V} {u r:Value} {o:Option V} {A:Around} {E:Value->Shared->Prop}
end
section
variable {X:Cx} {o e f:Expr} {apos cpos:Pos} {td ty tx:TE}
end
section
variable {X:Cx} {pins:List (Addr×Obj)} {σ:St} {H:Hp} {s:Shared} {a:Addr} {kvs:List (Key×V)} {A:Around} {E:Value->Shared->Prop}
end
section
variable {X:Cx} {pins:List (Addr×Obj)} {σ:St} {H:Hp} {s:Shared} {a:Addr} {y:V} {u:Value} {A:Around} {E:Value->Shared->Prop}
end
end L2
namespace Att
open PySem PySem.W PySem.Calls PyProof.Rows
theorem i3 {P:Params} {h:Heap}:∀ (ns:List Int) (vs:List Value),WellAll P h vs (ns.map WData.int)->IntsAre vs ns:=by
 intro ns;induction ns with
 | nil =>
  intro vs w;rw [List.map_nil] at w;cases w;exact .nil
 | cons n ns ih =>
  intro vs w;rw [JK] at w;cases w with
  | cons a b =>
   cases a;exact .cons _ _ (ih _ b)
theorem tS {l:OpenLaw} {n:Nat} (hn:l.most=some n) {P:Params} {h:Heap} {args:List WData} {vals:List Value}
  (hpre:l.row.toRowW.claim.pre args=true) (hwl:WellAll P h vals args) :
  ∃ a vs ns,vals=[Value.ref a]/\args=[WData.list (ns.map WData.int)]/\h.get? a=some { cls:=.type "list", data:=.seq vs.toArray }/\IntsAre vs ns/\ns.length<=n:=by
 have hsh:WShape.hasAll [] args [.list .int]=true:=(pre_splitW hpre).1;have hc:l.pre.holds [] { args:=args }=true:=(pre_splitW hpre).2;obtain ⟨d,r,rfl,h1,h2⟩:=hasAllW_cons hsh;obtain rfl:=hasAllW_nil h2;obtain ⟨xs,rfl,h3⟩:=hasW_list h1;obtain ⟨ns,rfl⟩:=items_int h3;have hlen:ns.length<=n:=by
  unfold OpenLaw.pre at hc;have h4:(WTm.not (.lt (.lit (.int (n:Int))) (.len (.arg 0)))).holds [] { args:=[.list (ns.map .int)] }=true:=by
   have h4:=(holds_andW hc).1;rw [hn] at h4;exact h4
  have h5:=condW_of h4 (w_not (w_lt w_lit (w_len_list (w_arg rfl))));rw [IK] at h5;refine Nat.le_of_not_lt fun q=>?_;have q':(n:Int) < ((ns.length:Nat):Int):=by omega
  first
   | (rw [Jr q'] at h5;exact absurd h5 (by decide))
   | (simp at h5;omega)
 cases hwl with
 | cons w1 w2 =>
  cases w2;cases w1 with
  | list ho hall=>exact ⟨_,_,ns,rfl,rfl,ho,i3 ns _ hall,hlen⟩
theorem sG (l:OpenLaw) (args:List WData):l.row.toRowW.claim.post args (.bool true) args=true :=
 postW_of (r:=l.row.toRowW) (X:=(true==true))
  (show WShape.has [] (.bool true) .bool=true by first | rfl | decide | simp [WShape.has,WShape.arms,WShape.armsAll])
  (show (WTm.eq .res (.lit (.bool true))).value [] { args:=args,res:=some (.bool true),after:=args }=some (.bool (true==true)) from w_eq_bool (w_res rfl) w_lit) rfl
theorem oM {l:OpenLaw} {n:Nat} {q:Program} {loose:List Str} {XP:(Str->Option Value)->Heap->Prop} {YP:World->Heap->Prop} {d:DefRec}
  (hn:l.most=some n) (hdf:d.params.defaults=[])
  (call:∀ (w:World) (s₀ s₁:Shared) (mg mb:Str->Option Value) (fa:Addr) (o:Obj) (pm cd doc:Value) (a:Addr) (vs:List Value) (ns:List Int),
   Ground q loose [] XP w s₀ mg mb s₁.heap->YP w s₁.heap ->
   s₁.heap.get? fa=some o->o.data=.func (docDef d.name d.params d.body d.scope pm cd doc)->s₁.heap.CodeRec cd d.name->mg d.name=some (.ref fa) ->
   s₁.heap.get? a=some { cls:=.type "list", data:=.seq vs.toArray }->IntsAre vs ns->ns.length<=n->s₁.gens=#[] ->
   codeAny (model l.prog w) callerA (.call (.ref fa) ⟨[.ref a],[]⟩) (fun r s'=>r=.ok (.ret (.bool true))/\OldK s₁.heap s'.heap/\s'.os=s₁.os/\AllBare s'.gens) s₁) :
  WalkO q loose XP YP l.row.toRowW d [] (fun f vs=>PySem.call f vs):=by
 intro w s₀ s₁ mg mb G Y fa o pm cd doc dV kV ho hd hcd hD hmg hg args vals as hpre hlay hrd hwl hlo;obtain rfl:dV=.none:=Dflts.none hD hdf;obtain rfl:kV=.none:=Dflts.noKw hD;obtain ⟨a,vs,ns,rfl,rfl,hobj,hints,hlen⟩:=tS hn hpre hwl;refine enter_call (codeAny_mono (call w s₀ s₁ mg mb fa o pm cd doc a vs ns G Y ho (fd_plain hd) hcd hmg hobj hints hlen hg) fun r s' hq=>?_);obtain ⟨rfl,h2,h3,h4⟩:=hq;exact ⟨.inl ⟨.bool true,.bool true,[],rfl,fun _=>rfl,.bool true,sG l _,fun _=>⟨List.Pairwise.nil,fun _ hm=>(nomatch hm)⟩⟩,h2,h3,h4⟩
section
variable {prog:Program} {w:World} {A:Around} {E:Value->Shared->Prop} {s:Shared} {K:Frag}
end
end Att
namespace L2
open PySem PySem.Spec PyProof.Rows
theorem mP:∀ {vs:List Value} {ns:List Int},IntsAre vs ns->Vals (ns.map V.int) vs
 | _,_,.nil=>.nil
 | _,_,.cons n t h=>.cons ⟨t,rfl⟩ (mP h)
def DN (H:Hp):Prop:=∀ b,H b=none\/∃ o xs,H b=some (.frz o (.lst xs))
theorem vS {P:Program} {w:World} {K:Fg} {mg mb:Str->Option Value} {CX:CXT} {k:Nat} {fa a:Addr} {fd:FuncData} {x:Str} {sp:Sp} {s₁:Shared} {vs:List Value} {ns:List Int}
  (KX:K.In s₁.heap) (hns:s₁.heap.Ns mainGlobals mg) (hb:s₁.heap.Ns builtinsNs mb) (hbb:∀ x:Str,x ≠ "__name__" -> mb x=bootBuiltins x) (hlim:s₁.heap.NoLimit) (hg:s₁.gens=#[])
  (ha:s₁.heap.get? a=some { cls:=.type "list", data:=.seq vs.toArray }) (hi:IntsAre vs ns) (hl:ns.length<=sizeLine) (hr:cp k callerA)
  (F:∀ base:Heap,K.In base->base.Ns mainGlobals mg->dU P w K mg base CX k fa fd [x] sp) (hbind:∀ (s:Shared) (u:Value),BindsTo s fd ⟨[u],[]⟩ [(x,u)])
  (hsp:∀ H:Hp,DN H->SqL K H a (ns.map V.int)->sp [.ref a] H (fun v _=>v=.bl true) fun _ _ _=>False)
  (hCX:∀ H e s',CX [] H s₁ (fun _ _ _=>False) e s'->False) :
  codeAny (model P w) callerA (.call (.ref fa) ⟨[.ref a],[]⟩) (fun r s'=>r=.ok (.ret (.bool true))/\OldK s₁.heap s'.heap/\s'.os=s₁.os/\AllBare s'.gens) s₁:=by
 have rv:=mP hi;have lenV:=hi.length;have core:∀ H:Hp,DN H->SqL K H a (ns.map V.int)->HOk P w H s₁.heap->(∀ b,H b≠none->b=a)->(H a≠none->K.lookup a=none) ->
   codeAny (model P w) callerA (.call (.ref fa) ⟨[.ref a],[]⟩) (fun r s'=>r=.ok (.ret (.bool true))/\OldK s₁.heap s'.heap/\s'.os=s₁.os/\AllBare s'.gens) s₁:=by
  intro H hO hS hok hA hK;have base_of:∀ {b:Addr} {o:Obj},s₁.heap.get? b=some o->H b=none->(vF s₁.heap H).get? b=some o:=fun e n=>wM e n;have noA:∀ {b:Addr} {o:Obj} {es:Array DictEntry} {ep:Nat},s₁.heap.get? b=some o->o.data=.dict es ep->H b=none:=fun {b o es ep} e d=>by
   cases q:H b with
   | none=>rfl
   | some u =>
    have e':b=a:=hA b (by rw [q];simp);subst e';rw [ha] at e;cases e;have d':Data.seq vs.toArray _=Data.dict es ep:=d;cases d'
  have nsK:∀ {b:Addr} {m:Str->Option Value},s₁.heap.Ns b m->(vF s₁.heap H).Ns b m:=fun {b m} ⟨o,es,ep,e,d,r⟩=>⟨o,es,ep,base_of e (noA e d),d,r⟩
  have hKb:K.In (vF s₁.heap H):=fun b o e=>base_of (KX b o e) (by
   cases q:H b with
   | none=>rfl
   | some u =>
    have e':b=a:=hA b (by rw [q];simp);subst e'
    rw [hK (by rw [q];simp)] at e;cases e)
  have hM:Mod K mg (vF s₁.heap H):=⟨hKb,nsK hns,⟨mb,nsK hb,hbb⟩,let ⟨mc,h1,h2⟩:=hlim;⟨mc,nsK h1,h2⟩⟩;have e0:DU P w K mg (vF s₁.heap H) callerA [] s₁ H:=⟨rfl,hM,fun b o e=>yR e,Nat.le_of_eq (uR _ _),trivial,fun b hb=>absurd (show b∈([]:List Addr) from hb) (by simp),hok,.of_eq hg⟩;refine codeAny_mono ((F _ hKb (nsK hns)).run callerA [] s₁ H ⟨[.ref a],[]⟩ [.ref a] [.ref a] _ _ hr e0 (hbind s₁ (.ref a)) (.cons rfl .nil) (hsp H hO hS)) fun r s' h=>?_;cases r with
  | error e=>exact (hCX H e s' h).elim
  | ok fl =>
   cases fl with
   | next=>exact False.elim h
   | brk=>exact False.elim h
   | cont=>exact False.elim h
   | ret u =>
    obtain ⟨v,H',os,bare,un,hok',r',q⟩:=h;have q':v=.bl true:=q;subst q';obtain rfl:u=Value.bool true:=r';refine ⟨rfl,OldK.of_keep fun b o e=>?_,os,bare⟩;cases q:H b with
    | none=>exact un.keep b o e q (by intro z;exact absurd (show b∈([]:List Addr) from z) (by simp)) (by simp)
    | some u =>
     rcases hO b with z | ⟨ob,xs,z⟩
     ·rw [q] at z;cases z
     ·have z2:=un.su b ob _ z;obtain ⟨e1,_⟩:=hok b _ z;obtain ⟨e2,_⟩:=hok' b _ z2;rw [e] at e1;cases e1;exact e2
 cases hk:K.lookup a with
 | some o =>
  have e:=KX a o hk;rw [ha] at e;cases e;refine core (fun _=>none) (fun _=>.inl rfl) (.inr ⟨_,vs.toArray,_,hk,rfl,rfl,rfl,by rw [IW,lenV];exact hl,by simpa using rv⟩) (fun b u z=>by have z':(none:Option HO)=some u:=z;cases z') (fun b z=>absurd rfl z) fun z=>absurd rfl z
 | none =>
  refine core (fun b=>if b=a then some (.frz { cls:=.type "list", data:=.seq vs.toArray } (.lst (ns.map V.int))) else none) (fun b=>?_) (.inl (.inr ⟨{ cls:=.type "list", data:=.seq vs.toArray },IX rfl⟩)) (fun b u z=>?_) (fun b z=>?_) fun _=>hk
  ·by_cases hb:b=a
   ·exact .inr ⟨_,_,IX hb⟩
   ·exact .inl (IV hb)
  ·by_cases hb:b=a
   ·have z':=(IX hb).symm.trans z;cases z';subst hb;exact ⟨ha,by rw [IK];exact hl,vs,_,rv,ha⟩
   ·have z':=(IV hb).symm.trans z;cases z'
  ·by_cases hb:b=a
   ·exact hb
   ·exact absurd (IV hb) z
end L2
namespace L2
open PySem PySem.Spec PyProof.Rows
abbrev KOf {K:Fg} {h:Heap} (_:K.In h):Fg:=K
theorem zS {l:PySem.W.OpenLaw} {n k:Nat} {q:Program} {loose:List Str} {XP:(Str->Option Value)->Heap->Prop} {YP:World->Heap->Prop} {d:DefRec} {K:Params->Fg} {CX:World->CXT} {sp:World->Sp} {x:Str}
  (hn:l.most=some n) (hn2:n<=sizeLine) (hdf:d.params.defaults=[]) (hr:cp k callerA)
  (hY:∀ (w:World) (h:Heap),YP w h->(K w.params).In h)
  (F:∀ (w:World) (mg:Str->Option Value) (fa:Addr) (h:Heap),(K w.params).In h->h.Ns mainGlobals mg->mg d.name=some (.ref fa) ->
   ∃ fd:FuncData,(∀ (s:Shared) (u:Value),BindsTo s fd ⟨[u],[]⟩ [(x,u)]) /\
    ∀ base:Heap,(K w.params).In base->base.Ns mainGlobals mg->dU l.prog w (K w.params) mg base (CX w) k fa fd [x] (sp w))
  (hsp:∀ (w:World) (H:Hp) (a:Addr) (ns:List Int),ns.length<=n->DN H->SqL (K w.params) H a (ns.map V.int)->sp w [.ref a] H (fun v _=>v=.bl true) fun _ _ _=>False)
  (hCX:∀ (w:World) (H:Hp) (s:Shared) (e:Value) (s':Shared),CX w [] H s (fun _ _ _=>False) e s'->False) :
  PySem.W.WalkO q loose XP YP l.row.toRowW d [] (fun f vs=>PySem.call f vs):=by
 refine Att.oM hn hdf fun w s₀ s₁ mg mb fa o pm cd doc a vs ns G Y ho hd hcd hmg hobj hints hlen hg=>?_;have KX:=hY w _ Y;obtain ⟨fd,hb,hF⟩:=F w mg fa _ KX G.T.g hmg;exact vS KX G.T.g G.T.b G.T.builtins G.T.nolimit hg hobj hints (Ju hlen hn2) hr hF hb (fun H hO hS=>hsp w H a ns hlen hO hS) fun H e s'=>hCX w H s₁ e s'
theorem wj {l:PySem.W.OpenLaw} {n k:Nat} {q:Program} {loose:List Str} {XP:(Str->Option Value)->Heap->Prop} {YP:World->Heap->Prop} {d:DefRec} {K:Params->Fg} {CX:CXT} {sp:Fg->Sp} {x:Str}
  (hn:l.most=some n) (hn2:n<=sizeLine) (hdf:d.params.defaults=[]) (hr:cp k callerA)
  (hY:∀ (w:World) (h:Heap),YP w h->(K w.params).In h)
  (F:∀ (w:World) (mg:Str->Option Value) (fa:Addr) (h:Heap),(K w.params).In h->h.Ns mainGlobals mg->mg d.name=some (.ref fa) ->
   ∃ fd:FuncData,(∀ (s:Shared) (u:Value),BindsTo s fd ⟨[u],[]⟩ [(x,u)]) /\
    ∀ base:Heap,(K w.params).In base->base.Ns mainGlobals mg->dU l.prog w (K w.params) mg base CX k fa fd [x] (sp (K w.params)))
  (hsp:∀ (K:Fg) (H:Hp) (a:Addr) (ns:List Int),ns.length<=n->DN H->SqL K H a (ns.map V.int)->sp K [.ref a] H (fun v _=>v=.bl true) fun _ _ _=>False)
  (hCX:∀ (H:Hp) (s:Shared) (e:Value) (s':Shared),CX [] H s (fun _ _ _=>False) e s'->False) :
  PySem.W.WalkO q loose XP YP l.row.toRowW d [] (fun f vs=>PySem.call f vs) :=
 zS (K:=K) (CX:=fun _=>CX) (sp:=fun w=>sp (K w.params)) hn hn2 hdf hr hY F (fun w H a ns h1 h2 h3=>hsp (K w.params) H a ns h1 h2 h3) fun _ H s e s'=>hCX H s e s'
end L2
namespace L2
open PySem PySem.Spec PyProof.Rows
def af (s:Stmt):Arguments:=match s with
 | .FunctionDef _ a _ _ _ _ _ _ _ _=>a
 | _=>{ posonlyargs:=[],args:=[],vararg:=none,kwonlyargs:=[],kw_defaults:=[],kwarg:=none,defaults:=[] }
def ae (s:Stmt):List Stmt:=match s with
 | .FunctionDef _ _ b _ _ _ _ _ _ _=>b
 | _=>[]
def aa (s:Stmt):Scope:=match s with
 | .FunctionDef _ _ _ _ _ _ sc _ _ _=>sc
 | _=>{ kind:=.function,names:=[],isGenerator:=false,isCoroutine:=false }
abbrev CX0:CXT:=fun _ _ _ _ _ _=>False
abbrev E0:XK:=fun _ _ _=>False
theorem aI {X:Cx}:Passes CX0 X E0:=fun _ _ _ _ _ _ _ h=>h.elim
structure Fun (K:Fg) (x qual:Str) (st:Stmt) (f:Addr) (fd:FuncData):Prop where
 ex:∃ (oc:Value) (od:Option Addr) (kV doc pm:Value) (an:Option Addr) (cdv ct:Value) (osl:Array (Option Value)),
  fd=PySem.W.fnOf x qual (af st) (ae st) (aa st) .none kV doc pm an cdv ct/\K.lookup f=some ⟨oc,od,.func fd,osl⟩/\PySem.W.codeIn K cdv qual=true
 kp:PySem.W.keepIn K (.ref f)=true
section
variable {P:Program} {w:World} {K:Fg} {mg:Str->Option Value} {base:Heap}
theorem Fun.ok {x qual:Str} {st:Stmt} {f:Addr} {fd:FuncData} {N ps:List Str} {k:Nat} {sp:Sp} (F:Fun K x qual st f fd) (S:aH N ps (aa st)) (len:∀ vs H Q E,sp vs H Q E->vs.length=ps.length)
  (hbody:∀ (cdv:Value) (A:Around) (outer:List Env) (s:Shared) (H:Hp) (vs:List V) (Q:VK) (E:XK),cp k (A.deeper (envOfC qual (aa st) s.heap.objs.size f cdv))->sp vs H Q E ->
   ∃ t,PSs (fm CX0 P w K mg base N qual (aa st) f cdv A outer s H E).nox (ae st) t/\t { nx:=fun _ H'=>Q .non H',rt:=Q } (start N vs) H):dU P w K mg base CX0 (k+1) f fd ps sp:=by
 obtain ⟨oc,od,kV,doc,pm,an,cdv,ct,osl,rfl,lk,hcd⟩:=F.ex;refine E7 lk hcd S len fun A outer s H vs Q E hr hsp=>?_;obtain ⟨t,h,q⟩:=hbody cdv A outer s H vs Q E hr hsp;exact ⟨t,h.nox,q⟩
theorem Fun.binds {x qual:Str} {st:Stmt} {f:Addr} {fd:FuncData} {ps:List Str} (F:Fun K x qual st f fd)
  (h:∀ (kV doc pm:Value) (an:Option Addr) (cdv ct:Value) (us:List Value),us.length=ps.length->bindArgs (PySem.W.fnOf x qual (af st) (ae st) (aa st) .none kV doc pm an cdv ct) ⟨us,[]⟩=pure (ps.zip us)):Binds K fd ps []:=by
 obtain ⟨oc,od,kV,doc,pm,an,cdv,ct,osl,rfl,lk,hcd⟩:=F.ex;exact .all (h kV doc pm an cdv ct)
theorem au {x qual:Str} {st:Stmt} {f:Addr} {oc:Value} {od an:Option Addr} {osl:Array (Option Value)} {kV doc pm cdv ct:Value} (l:K.lookup f=some ⟨oc,od,.func (PySem.W.fnOf x qual (af st) (ae st) (aa st) .none kV doc pm an cdv ct),osl⟩)
  (c:PySem.W.codeIn K cdv qual=true) (k:PySem.W.keepIn K (.ref f)=true):Fun K x qual st f (PySem.W.fnOf x qual (af st) (ae st) (aa st) .none kV doc pm an cdv ct):=⟨⟨oc,od,kV,doc,pm,an,cdv,ct,osl,rfl,l,c⟩,k⟩
end
section
variable {X:Cx}
end
def bf (H H':Hp):Prop:=∀ b o,H b=some o->H' b=some o
theorem bf.refl (H:Hp):bf H H:=fun _ _ h=>h
theorem bf.trans {H H1 H2:Hp} (a:bf H H1) (b:bf H1 H2):bf H H2:=fun c o h=>b c o (a c o h)
theorem bf.free {H H':Hp} (e:bf H H') {l:Addr} (h:H' l=Option.none):H l=Option.none:=by
 cases q:H l with
 | none=>rfl
 | some o =>
  rw [e l o q] at h;cases h
end L2
namespace L2
open PySem PySem.Spec PyProof.Rows
section
variable {X:Cx}
end
section
variable {κ:Type} [DecidableEq κ]
end
end L2
end
section
namespace L2
open PySem PySem.Spec PyProof.Rows
def nG (env:Env):List (Str×NameKind)->List (Str×Addr)->List (Str×Addr)
 | [],cs=>cs
 | (n,k) :: r,cs=>nG env r (if k==.free then (n,(env.cells.lookup n).getD 0) :: cs else cs)
theorem d6 {env:Env}:∀ (ns:List (Str×NameKind)) (cs:List (Str×Addr)),(∀ y∈ns,y.2=.free->∃ c,env.cells.lookup y.1=some c) ->
  (forIn ns cs (fun (x:Str×NameKind) (r:List (Str×Addr))=>if (x.2==NameKind.free)=true then (cellOf env x.1>>=fun a=>pure (ForInStep.yield ((x.1,a) :: r)):Sem _) else pure (ForInStep.yield r)):Sem (List (Str×Addr)))=pure (nG env ns cs)
 | [],_,_=>rfl
 | (n,k) :: r,cs,h=>by
  rw [List.forIn_cons];by_cases hk:k=.free
  ·subst hk;obtain ⟨c,e⟩:=h (n,.free) IU rfl;have e':env.cells.lookup n=some c:=e;have q:=d6 (env:=env) r ((n,c) :: cs) fun y hy=>h y (Jb _ hy);have z:nG env ((n,NameKind.free) :: r) cs=nG env r ((n,c) :: cs):=by
    show nG env r (if (NameKind.free==NameKind.free)=true then (n,(env.cells.lookup n).getD 0) :: cs else cs)=_;rw [IX (by decide),e'];rfl
   have k:cellOf env n=pure c:=by
    unfold cellOf;rw [e']
   rw [z,<-q];dsimp only;rw [IX (by decide),k];rfl
  ·have hb:(k==NameKind.free)=false:=by simpa using hk
   have q:=d6 (env:=env) r cs fun y hy=>h y (Jb _ hy);have z:nG env ((n,k) :: r) cs=nG env r cs:=by
    show nG env r (if (k==NameKind.free)=true then (n,(env.cells.lookup n).getD 0) :: cs else cs)=_;rw [hb,IV Jf]
   rw [z,<-q];dsimp only;rw [hb,IV Jf];rfl
theorem kg {scope:Scope} {env:Env} (h:∀ y∈scope.names,y.2=.free->∃ c,env.cells.lookup y.1=some c):closureFor scope env=pure (nG env scope.names []):=by
 have q:=d6 (env:=env) scope.names [] h;unfold closureFor;show (forIn scope.names [] _>>=_:Sem _)=_;refine Eq.trans (congrArg (fun m:Sem (List (Str×Addr))=>m>>=fun r=>pure r) (Eq.trans ?_ q)) rfl;rfl
theorem pH {env:Env}:∀ (ns:List (Str×NameKind)) (cs:List (Str×Addr)),(∀ y∈ns,y.2=.free->∃ c,env.cells.lookup y.1=some c)->(∀ y c,cs.lookup y=some c->env.cells.lookup y=some c) ->
  ∀ y c,(nG env ns cs).lookup y=some c->env.cells.lookup y=some c
 | [],_,_,g,y,c,e=>g y c e
 | (n,k) :: r,cs,h,g,y,c,e=>by
  refine pH r _ (fun z hz=>h z (Jb _ hz)) (fun z d e'=>?_) y c e;by_cases hk:(k==NameKind.free)=true
  ·rw [IX hk] at e';rw [Le] at e';obtain ⟨c',ec⟩:=h (n,k) IU (by simpa using hk);have ec':env.cells.lookup n=some c':=ec;cases hz:z==n with
   | true =>
    rw [hz] at e';have hzn:z=n:=by simpa using hz
    subst hzn;rw [ec'] at e' ⊢;exact e'
   | false=>rw [hz] at e';exact g z d e'
  ·rw [IV hk] at e';exact g z d e'
theorem mx {env:Env} {y:Str}:∀ (ns:List (Str×NameKind)) (cs:List (Str×Addr)),(∃ c,cs.lookup y=some c)->∃ c,(nG env ns cs).lookup y=some c
 | [],_,h=>h
 | (n,k) :: r,cs,h=>by
  refine mx r _ ?_;by_cases hk:(k==NameKind.free)=true
  ·rw [IX hk,Le];cases y==n
   ·exact h
   ·exact ⟨_,rfl⟩
  ·rw [IV hk];exact h
theorem iP {env:Env} {y:Str}:∀ (ns:List (Str×NameKind)) (cs:List (Str×Addr)),(y,NameKind.free)∈ns->∃ c,(nG env ns cs).lookup y=some c
 | [],_,h=>by simp at h
 | (n,k) :: r,cs,h=>by
  rcases Jo.mp h with e | h
  ·cases e;show ∃ c,(nG env r (if (NameKind.free==NameKind.free)=true then (y,(env.cells.lookup y).getD 0) :: cs else cs)).lookup y=some c;refine mx r _ ⟨(env.cells.lookup y).getD 0,?_⟩;rw [IX (by decide),Le,JX]
  ·exact iP r _ h
theorem cL {env:Env} {y:Str} {k:NameKind}:∀ (ns:List (Str×NameKind)),
  (ns.map fun (n,k)=>if (k==NameKind.free&&env.scope.kind==.function&&env.kindOf n==some .cell) then (n,NameKind.cell) else (n,k)).lookup y=some k->(y,k)∈ns\/(k=.cell/\(y,NameKind.free)∈ns)
 | [],h=>by simp at h
 | (n,k') :: r,h=>by
  have ih:=fun q=>cL (env:=env) (y:=y) (k:=k) r q;rw [JK] at h;have h2:=h;have again:=fun q=>(ih q).elim (fun q=>Or.inl (Jb (n,k') q)) fun q=>(Or.inr ⟨q.1,Jb (n,k') q.2⟩:(y,k)∈(n,k') :: r\/(k=.cell/\(y,NameKind.free)∈(n,k') :: r));dsimp only at h2;clear h;by_cases hc:(k'==NameKind.free&&env.scope.kind==.function&&env.kindOf n==some .cell)=true
  ·rw [IX hc,Le] at h2;cases hy:y==n with
   | true =>
    rw [hy] at h2;have e1:y=n:=by simpa using hy
    have hk:k'=.free:=by
     have:=hc;simp at this;exact this.1.1
    have e2:k=.cell:=(J1 h2).symm;exact .inr ⟨e2,by rw [e1,hk];exact IU⟩
   | false=>rw [hy] at h2;exact again h2
  ·rw [IV hc,Le] at h2;cases hy:y==n with
   | true =>
    rw [hy] at h2;have e1:y=n:=by simpa using hy
    have e2:k'=k:=J1 h2;exact .inl (by rw [e1,e2];exact IU)
   | false=>rw [hy] at h2;exact again h2
def cxB (X:Cx) (N':List Str) (scope:Scope) (C:Addr) (s3:Shared) (H3:Hp) (ex:List Addr):Cx :=
  { prog:=X.prog,w:=X.w,K:=X.K,mg:=X.mg,base:=X.base,A:=X.A,N:=N',s₀:=s3,H₀:=H3,env:=compEnvC scope (nG X.env scope.names []) C X.env,outer:=X.stack,stack:=X.stack,ex:=ex,
    fn:=fun _=>false,calm:=true,pn:=[],xe:=fun _ _=>False }
def g6 (X:Cx) (scope:Scope):List Str->List Nat->Prop
 | [],[]=>True
 | y :: ys,j :: js=>X.N[j]?=some y/\(X.env.scope.names.lookup y=some .cell/\scope.names.lookup y=some .free)/\g6 X scope ys js
 | _,_=>False
theorem g6.get {X:Cx} {scope:Scope}:∀ {ys:List Str} {js:List Nat} {k:Nat} {y:Str},g6 X scope ys js->ys[k]?=some y->∃ j,js[k]?=some j/\X.N[j]?=some y/\X.env.scope.names.lookup y=some .cell/\scope.names.lookup y=some .free
 | [],_,_,_,_,e=>by simp at e
 | _ :: _,[],_,_,h,_=>False.elim h
 | y :: ys,j :: js,0,z,h,e=>by simp at e;subst e;exact ⟨j,rfl,h.1,h.2.1⟩
 | y :: ys,j :: js,k+1,z,h,e=>by
  obtain ⟨j',e1,e2⟩:=g6.get (k:=k) h.2.2 (by simpa using e);exact ⟨j',by simpa using e1,e2⟩
theorem g6.len {X:Cx} {scope:Scope}:∀ {ys:List Str} {js:List Nat},g6 X scope ys js->ys.length=js.length
 | [],[],_=>rfl
 | _ :: _,_ :: _,h=>by simp [g6.len h.2.2]
 | [],_ :: _,h=>False.elim h
 | _ :: _,[],h=>False.elim h
def b8 (js:List Nat) (σ:St):St:=js.map fun j=>(σ[j]?).getD none
structure i7 (X:Cx) (scope:Scope) (x:Str):Prop where
 kind:scope.kind=.function
 cells:∀ y∈scope.names,y.2≠.cell
 locs:∀ y∈scope.names,y.2=.local->scope.names.lookup y.1=some .local
 var:scope.names.lookup x=some .local
 free:∀ y∈scope.names,y.2=.free->X.env.scope.names.lookup y.1=some .cell
def PTs (X:Cx) (ifs:List Expr) (t:TT):Prop :=
 ∀ (pins:List (Addr×Obj)) (s:Shared) (σ:St) (H:Hp) (Q:Bool->Hp->Prop),Inv X pins σ H s->t σ H Q ->
  wpAny (model X.prog X.w) X.A (forIn ifs true fun c r=>if r=true then do let ok<-isTrue c X.env (eval c X.env);pure (ForInStep.yield ok) else pure (ForInStep.yield r)) (TP X pins σ Q) X.xe s
def xp:TT:=fun _ H Q=>Q true H
theorem yt {X:Cx}:PTs X [] xp:=fun _ _ _ H _ I h=>wpAny_tests_nil ⟨H,I,h⟩
theorem sN {X:Cx} {pins:List (Addr×Obj)} {σ:St} {H:Hp} {s3:Shared} {h1:Heap} {tk:Nat} {scope:Scope} {x:Str} {ys:List Str} {js:List Nat} {ex:List Addr} (I:Inv X pins σ H s3) (hc:X.calm=true) (B:i7 X scope x) (cap:g6 X scope ys js)
  (hns:h1.Ns s3.heap.objs.size (fun _=>none)) (hk:∀ b o,s3.heap.get? b=some o->h1.get? b=some o)
  (hex:∀ b∈ex,b ∉ frs X.stack/\b < s3.heap.objs.size/\(∀ y c,X.env.cells.lookup y=some c->c≠b)/\X.base.get? b=none) :
  Inv (cxB X (x :: ys) scope s3.heap.objs.size s3 H ex) [] (none :: b8 js σ) H { s3 with heap:=h1,toks:=tk }:=by
 have hfree:∀ y∈scope.names,y.2=.free->∃ c,X.env.cells.lookup y.1=some c:=fun y hy hf=>I.ok.has y.1 (.inl (B.free y hy hf));have sub:=pH (env:=X.env) scope.names [] hfree (fun _ _ e=>by simp at e)
 refine ⟨⟨I.ok.mod,B.kind,I.ok.glob,I.ok.blt,IY _,fun y z c h1 h2=>I.ok.inj y z c (sub _ _ h1) (sub _ _ h2),fun y hy=>?_,fun y c hf _=>?_,fun _=>I.ok.hd hc,I.ok.frames,.inl rfl,fun b hb=>?_,fun b o e=>I.bs b o e,Ju I.ok.bsz I.sz,fun b o e hb=>?_,fun b hb=>(hex b hb).1,I.stack,I.rJ⟩,
  rfl,I.bare,Un.kept hk,⟨_,hns,fun i y v e1 e2 e3=>?_⟩,fun y c e=>?_,I.hok.fresh (IY _),fun y c e=>I.iI y c (sub _ _ e),fun p hp=>absurd (show p∈([]:List (Addr×Obj)) from hp) (by simp),I.hok.kept hk,?_⟩
 ·have hy:(relabel scope X.env).names.lookup y=some .cell\/(relabel scope X.env).names.lookup y=some .free:=hy;rcases hy with hy | hy
  ·rcases cL _ hy with q | ⟨_,q⟩
   ·exact absurd rfl (B.cells _ q)
   ·exact iP _ _ q
  ·rcases cL _ hy with q | ⟨q,_⟩
   ·exact iP _ _ q
   ·cases q
 ·exact absurd (show false=true from hf) (by simp)
 ·exact ⟨JJ (hex b hb).2.1,fun y c e=>(hex b hb).2.2.1 y c (sub _ _ e)⟩
 ·have e':X.base.get? b=some o:=e;have:=(hex b hb).2.2.2;rw [e'] at this;cases this
 ·cases i with
  | zero=>simp at e2
  | succ i =>
   have e1':ys[i]?=some y:=by simpa [cxB] using e1
   have e2':(b8 js σ)[i]?=some (some v):=by simpa using e2
   obtain ⟨j,ej,en,ec,ef⟩:=cap.get e1';have e4:σ[j]?=some (some v):=by
    unfold b8 at e2';rw [Jd,ej] at e2';simp only [Ln,Option.some.injEq] at e2';cases q:σ[j]? with
    | none=>rw [q] at e2';cases e2'
    | some w=>rw [q] at e2';simp at e2';rw [e2']
   obtain ⟨m,hn,hl⟩:=I.loc;obtain ⟨u,r,l⟩:=hl j y v en e4 (.inr (.inl ec));refine ⟨u,r,.inr ?_⟩;rcases l with ⟨kl,_⟩ | ⟨kc,c,ecl,cell⟩
   ·have kl:X.env.scope.names.lookup y=some .local:=kl;rw [ec] at kl;cases kl
   ·have e3:(relabel scope X.env).names.lookup y=some .local\/(relabel scope X.env).names.lookup y=some .cell\/(relabel scope X.env).names.lookup y=some .free:=e3;refine ⟨?_,?_⟩
    ·rcases e3 with q | q | q
     ·rcases cL _ q with q | ⟨q,_⟩
      ·have:=B.locs _ q rfl;rw [ef] at this;cases this
      ·cases q
     ·exact .inl q
     ·exact .inr q
    ·have mem:(y,NameKind.free)∈scope.names:=KD ef;obtain ⟨c',ec'⟩:=iP (env:=X.env) scope.names [] mem;have:=sub _ _ ec';rw [ecl] at this;cases this;obtain ⟨o,ho,hd⟩:=cell;exact ⟨c,ec',o,hk _ _ ho,hd⟩
 ·obtain ⟨v,o,ho,hd⟩:=I.cell y c (sub _ _ e);exact ⟨v,o,hk _ _ ho,hd⟩
 ·show (none :: b8 js σ).length=(x :: ys).length;rw [Jk,Jk,cap.len];unfold b8;rw [IK]
def j4 (js:List Nat) (wi:TI) (tt:TT) (te:TE):TE:=fun σ H Q=>wi σ H fun J H1=>∃ W:Nat->Nat->List V->Hp->Prop,(∃ m,W 0 m [] H1)/\∀ i m acc H,W i m acc H ->
 (J.stop i H/\acc.length<=sizeLine/\∀ p,H p=none->Q (.ref p) (upd H p (.lst acc)))\/(J.go i H/\acc.length < sizeLine/\∀ x H',J.yld i H x H' ->
  tt (some x :: b8 js σ) H' fun b H2=>if b=true then te (some x :: b8 js σ) H2 fun y H3=>∃ m',m' < m/\W (i+1) m' (acc++[y]) H3 else ∃ m',m' < m/\W (i+1) m' acc H2)
theorem wD {M:Model} {A:Around} {α β:Type} {E E':Value->Shared->Prop} {a:α} {t:Sem α} {u:Sem β} {Q:α->Shared->Prop} {R:β->Shared->Prop} {s s':Shared} (e:t=pure a) (h:wpAny M A t Q E s) (k:Q a s->wpAny M A u R E' s'):wpAny M A u R E' s':=by
 subst e;exact fun Γ p hΓ=>k (h Γ p hΓ) Γ p hΓ
theorem pQ {X:Cx} {pins:List (Addr×Obj)} {σ:St} {H:Hp} {s2:Shared} {elt iter:Expr} {x:Str} {px pos:Pos} {ifs:List Expr} {scope:Scope} {tt:TT} {te:TE} {ys:List Str} {js:List Nat} {it:Addr} {fp:List Addr} {tn:Nat->Heap->Prop} {J:It}
    {Q:VK} {E:Value->Shared->Prop} {RR:Value->Addr->Result->Shared->Prop} (hc:X.calm=true) (B:i7 X scope x) (nd:(x :: ys).Nodup) (cap:g6 X scope ys js)
    (ht:∀ C s3 H3 ex,PTs (cxB X (x :: ys) scope C s3 H3 ex) ifs tt) (he:∀ C s3 H3 ex,PE (cxB X (x :: ys) scope C s3 H3 ex) elt te)
    (I:Inv X pins σ H s2) (T:Turn X.prog X.w X.K (.Name x px) J fp it tn) (h0:tn 0 s2.heap) (hf:∀ b∈fp,xM X pins H b)
    (W:Nat->Nat->List V->Hp->Prop) (w0:∃ m,W 0 m [] H)
    (turn:∀ i m acc H,W i m acc H->(J.stop i H/\acc.length<=sizeLine/\∀ p,H p=none->Q (.ref p) (upd H p (.lst acc)))\/(J.go i H/\acc.length < sizeLine/\∀ x H',J.yld i H x H' ->
      tt (some x :: b8 js σ) H' fun b H2=>if b=true then te (some x :: b8 js σ) H2 fun y H3=>∃ m',m' < m/\W (i+1) m' (acc++[y]) H3 else ∃ m',m' < m/\W (i+1) m' acc H2))
    (hRR:∀ (D C:Addr) (H':Hp) (s':Shared) (m':Str->Option Value),s'.heap.Ns C m'->s2.heap.objs.size<=C->C≠D->H' C=none->Inv X pins σ H' s'->Q (.ref D) H'->RR (.ref D) C (.ok .next) s') :
    wpAny (model X.prog X.w) X.A (newList []) (fun acc s₃=>wpAny (model X.prog X.w) X.A (newFunctionEnv scope X.env.globals (nG X.env scope.names []) [] X.env.qual none .none (some X.env)) (fun cenv s₄ =>
      codeAny (model X.prog X.w) X.A (.compStart (.ListComp elt [⟨.Name x px,iter,ifs,0⟩] scope pos) 0 (.ref it) acc { cenv with scope:=relabel scope X.env }) (RR acc cenv.locals) s₄) E s₃) E s2:=by
  refine Kc (wpAny_newFunctionEnv B.cells (by intro y hy;simp at hy) (fun h1 hns hsb=>?_) B.kind);dsimp only at hns hsb ⊢;have hD:H s2.heap.objs.size=none:=I.hok.fresh (IY _);generalize hH2:s2.heap.push { cls:=.type "list", dict:=none,data:=.seq ([]:List Value).toArray }=P2 at hns hsb ⊢;have hgetD:P2.get? s2.heap.objs.size=some { cls:=.type "list", dict:=none,data:=.seq ([]:List Value).toArray }:=by rw [<- hH2];exact Jt _ rfl
  have hold:∀ b o,s2.heap.get? b=some o->P2.get? b=some o:=fun b o e=>by rw [<- hH2];exact Ja _ e
  have hsz:P2.objs.size=s2.heap.objs.size+1:=by rw [<- hH2,Heap.size_push]
  have I3:Inv X pins σ H { s2 with heap:=P2,toks:=s2.toks }:=I.kept hold;generalize hDe:s2.heap.objs.size=D at *;have keep1:∀ b o,P2.get? b=some o->h1.get? b=some o:=fun b o e=>hsb.extBut b o (JJ (Ji e)) (Ja _ e);have hfp:∀ b∈fp,b < D:=fun b hb=>by
    obtain ⟨o,e,_⟩:=T.obj _ _ h0 b hb;rw [<- hDe];exact Ji e
  have hstk:∀ b,b≠X.env.locals->b ∉ X.fs->b ∉ frs X.stack:=fun b h1 h2 z=>(Jo.mp (I.s8 b z)).elim h1 h2;have hDl:D≠X.env.locals:=fun z=>absurd I.lt (by rw [hDe,z];exact JY _);have hDfs:D ∉ X.fs:=I.BI (by rw [hDe];exact IY _);have hDc:∀ y c,X.env.cells.lookup y=some c->c≠D:=fun y c e z=>by
    obtain ⟨v,q⟩:=I.cell y c e;have:=q.lt;rw [z,hDe] at this;exact absurd this (JY _)
  have hex:∀ b∈D :: fp,b ∉ frs X.stack/\b < ({ s2 with heap:=P2,toks:=s2.toks }:Shared).heap.objs.size/\(∀ y c,X.env.cells.lookup y=some c->c≠b)/\X.base.get? b=none:=fun b hb=>by
    rcases Jo.mp hb with rfl | hb
    · refine ⟨hstk _ hDl hDfs,by show _ < P2.objs.size;rw [hsz];exact Kx _,hDc,?_⟩;cases q:X.base.get? b with
      | none=>rfl
      | some o =>
        have:=Ji (I.bk b o q);rw [hDe] at this;exact absurd this (JY _)
    · obtain ⟨f0,f1,f2,f3,f4,f5⟩:=hf b hb;refine ⟨hstk _ f1 f2,by show _ < P2.objs.size;rw [hsz];exact Nat.lt_succ_of_lt (hfp b hb),f4,?_⟩;cases q:X.base.get? b with
      | none=>rfl
      | some o =>
        rcases f3 with z | z
        · exact absurd z (I.ok.ze b o q)
        · exact absurd (Jm (Ji q) (Ju I.ok.bsz z)) (JY _)
  have IB:=sN (tk:=s2.toks) (ex:=D :: fp) I3 hc B cap (h1:=h1) hns keep1 hex;have hCD:P2.objs.size≠D:=by rw [hsz];exact Nat.succ_ne_self _
  have start:codeAny (model X.prog X.w) X.A (.compLoop (.ListComp elt [⟨.Name x px,iter,ifs,0⟩] scope pos) 0 (.ref it) (.ref D) (compEnvC scope (nG X.env scope.names []) P2.objs.size X.env)) (RR (.ref D) P2.objs.size) { s2 with heap:=h1,toks:=s2.toks }:=by
    obtain ⟨m0,w0⟩:=w0;refine codeAny_compLoop_tests (fun n s=>∃ i v0 H' acc its k,Inv (cxB X (x :: ys) scope P2.objs.size { s2 with heap:=P2,toks:=s2.toks } H (D :: fp)) [] (v0 :: b8 js σ) H' s/\tn i s.heap/\(∀ b∈D :: fp,H' b=none)/\s.heap.get? D=some { cls:=.type "list", data:=.seq its k }/\Vals acc its.toList/\acc.length<=sizeLine/\W i n acc H') ?_ m0 ?_
    · rintro n s ⟨i,v0,H3,acc,its,k,I4,t4,fr4,g4,va,hl4,w4⟩;have hDm:D∈D :: fp:=IU;have exf:=I4.ok.exf;have fsub:∀ b∈D :: fp,b ∉ (cxB X (x :: ys) scope P2.objs.size { s2 with heap:=P2,toks:=s2.toks } H (D :: fp)).fs:=fun b hb=>(hex b hb).1;have stat:∀ {H':Hp} {ob:Obj},(∀ b∈fp,H' b=none)->∀ b∈fp,xM (cxB X (x :: ys) scope P2.objs.size { s2 with heap:=P2,toks:=s2.toks } H (D :: fp)) [(D,ob)] H' b:=fun {H' ob} hn b hb =>
        ⟨hn b hb,(exf b (Jb _ hb)).1,fsub b (Jb _ hb),.inl (Jb _ hb),(exf b (Jb _ hb)).2,fun p hp z=>by
          have hp':p∈[(D,ob)]:=hp;have e:=IZ.mp hp';rw [e] at z
          exact absurd (hfp b hb) (by rw [<- show D=b from z];exact JY _)⟩
      have frp:∀ b∈fp,H3 b=none:=fun b hb=>fr4 b (Jb _ hb);have I5:Inv (cxB X (x :: ys) scope P2.objs.size { s2 with heap:=P2,toks:=s2.toks } H (D :: fp)) [(D,{ cls:=.type "list", data:=.seq its k })] (v0 :: b8 js σ) H3 s:=I4.dC fun p hp=>by
        rw [IZ.mp hp];exact ⟨g4,fr4 D hDm,(exf D hDm).1,fsub D hDm,fun v z=>nomatch z⟩
      rcases turn i n acc H3 w4 with ⟨stop,hacc,q⟩ | ⟨go,hacc,step⟩
      · refine JH (T.done (cxB X (x :: ys) scope P2.objs.size { s2 with heap:=P2,toks:=s2.toks } H (D :: fp)) rfl rfl rfl rfl i _ s _ H3 (fun _ _=>False) I5 (stat frp) t4 stop) (fun r s1 ⟨hr,I6⟩=>?_) (fun _ _ z=>z.elim);subst hr;obtain ⟨m',hn',_⟩:=id I6.loc;have pD:=(I6.pin (D,{ cls:=.type "list", data:=.seq its k }) (IS _ (IZ.mpr rfl))).1;have nD:H3 D=none:=fr4 D hDm;have u:=I6.base;have uu:Un (frs X.stack) (D :: fp) H (upd H3 D (.lst acc)) P2 s1.heap :=
          ⟨u.keep,u.slot,fun b o q n hx=>by rw [ay fun z=>hx (by rw [z];exact hDm)];exact u.free b o q n hx,u.there,
           fun b xs q=>by rw [ay (bh (u.vt b xs q) nD)];exact u.vt b xs q,fun b o v q=>by rw [ay (bh (u.su b o v q) nD)];exact u.su b o v q,
           fun b ps q=>by
            obtain ⟨more,z⟩:=u.vU b ps q
            exact ⟨more,by rw [ay (bh z nD)];exact z⟩⟩
        have hok:HOk X.prog X.w (upd H3 D (.lst acc)) s1.heap:=fun b o e=>by
          by_cases hb:b=D
          · subst hb;rw [aF] at e;cases e;exact ⟨hacc,its.toList,k,va,by rw [Array.toArray_toList];exact pD⟩
          · rw [ay hb] at e;exact (I6.hok b o e).nE (fun c v _ q=>q) (fun c q=>by rw [ay (bh q nD)];exact q) fun c xs q=>by rw [ay (bh q nD)];exact q
        have fin:=I3.call (g':=s1.gens) (t':=s1.toks) (d':=s1.drawn) uu hok I6.bare (fun b hb=>by
          rcases Jo.mp hb with z | hb
          · rw [z];refine ⟨.inr (by rw [<- hDe];exact I.sz),hDl,hDc,fun p hp z=>?_⟩;have:=Ji (I.pin p hp).1;rw [z,hDe] at this;exact JY _ this
          · exact ⟨(hf b hb).2.2.2.1,(hf b hb).2.1,(hf b hb).2.2.2.2.1,(hf b hb).2.2.2.2.2⟩)
        have es:({ heap:=s1.heap,gens:=s1.gens,drawn:=s1.drawn,toks:=s1.toks,os:=s2.os }:Shared)=s1:=by
          have:=I6.os;obtain ⟨a1,a2,a3,a4,a5⟩:=s1;have e5:a5=s2.os:=this;rw [e5]
        have fin':Inv X pins σ (upd H3 D (.lst acc)) s1:=es▸fin;exact hRR D P2.objs.size (upd H3 D (.lst acc)) s1 m' hn' (by rw [hsz];exact Nat.le_succ _) hCD (by rw [ay hCD];exact I6.free) fin' (q D nD)
      · refine JH (T.item (cxB X (x :: ys) scope P2.objs.size { s2 with heap:=P2,toks:=s2.toks } H (D :: fp)) rfl rfl rfl rfl i _ s _ H3 (fun _ _=>False) I5 (stat frp) t4 go) (fun r s1 ⟨u,hr,h4⟩=>?_) (fun _ _ z=>z.elim);subst hr;refine wD (a:=()) rfl h4 fun ⟨x',H5,I6,r6,y6,t6,fr6⟩=>?_;have I7:=I6.pinned (stat fr6) (T.obj _ _ t6);have kx:(relabel scope X.env).names.lookup x=some .local:=lookup_relabel_local B.var;have pg:PG (cxB X (x :: ys) scope P2.objs.size { s2 with heap:=P2,toks:=s2.toks } H (D :: fp)) (.Name x px) (aW 0):=oV nd rfl (.inl kx) (.inr kx);refine JH (pg _ s1 _ H5 x' u (fun σ' H'=>σ'=some x' :: b8 js σ/\H'=H5) I7 r6 ⟨rfl,rfl⟩) (fun _ s2' ⟨σ6,H6,I8,e1,e2⟩=>?_) (fun _ _ z=>z.elim);subst e1 e2;refine JH (ht _ _ _ _ _ s2' _ _ _ I8 (step x' H6 y6)) (fun b s3' ⟨H7,I9,q9⟩=>?_) (fun _ _ z=>z.elim);have pinsKeep:∀ {σ':St} {H':Hp} {s':Shared},Inv (cxB X (x :: ys) scope P2.objs.size { s2 with heap:=P2,toks:=s2.toks } H (D :: fp)) ([(D,{ cls:=.type "list", data:=.seq its k })]++nq fp s1.heap) σ' H' s' ->
            s'.heap.get? D=some { cls:=.type "list", data:=.seq its k }/\(∀ b∈D :: fp,H' b=none)/\∀ b∈fp,∀ o,s1.heap.get? b=some o->s'.heap.get? b=some o:=fun {σ' H' s'} J=>by
          have pd:=J.pin (D,{ cls:=.type "list", data:=.seq its k }) (IS _ (Jq _ (IZ.mpr rfl)));refine ⟨pd.1,fun b hb=>?_,fun b hb o e=>(J.pin (b,o) (IS _ (IS _ (fi hb e)))).1⟩;rcases Jo.mp hb with rfl | hb
          · exact pd.2.1
          · obtain ⟨o,e,_⟩:=T.obj _ _ t6 b hb;exact (J.pin (b,o) (IS _ (IS _ (fi hb e)))).2.1
        cases b with
        | false =>
          rw [IV Jf] at q9;obtain ⟨m',hm,w9⟩:=q9;obtain ⟨p1,p2,p3⟩:=pinsKeep I9;rw [IV Jf];exact ⟨m',hm,i+1,some x',H7,acc,its,k,I9.dC (fun p hp=>absurd hp (by simp)),T.keep _ _ _ t6 p3,p2,p1,va,hl4,w9⟩
        | true =>
          rw [IX rfl] at q9;rw [IX rfl];refine JH (he _ _ _ _ _ s3' _ _ _ I9 q9) (fun y s4' ⟨yv,H8,I10,ry,m',hm,w10⟩=>?_) (fun _ _ z=>z.elim);obtain ⟨p1,p2,p3⟩:=pinsKeep I10;have hsize:its.size=acc.length:=by rw [va.length];simp
          have I11:=I10.dC (pins':=[]) (fun p hp=>absurd hp (by simp));refine wpAny_list_append_plain ⟨k,p1⟩ (fun h' hpl hsame=>?_) (by rw [hsize];exact Ll hacc);obtain ⟨k',e'⟩:=hpl;have neD:∀ {b:Addr} {o:HO},H8 b=some o->b≠D:=fun e z=>by rw [z,p2 D hDm] at e;cases e
          refine ⟨m',hm,i+1,some x',H8,acc++[yv],its.push y,k',?_,?_,p2,e',?_,?_,w10⟩
          · refine I11.step (g':=s4'.gens) (t':=s4'.toks) (d':=s4'.drawn) (ch:=[D]) (fun b hb=>?_) (fun b o _ _ hc' e _=>?_) (fun b o _ _ hc' e _=>⟨o.slots,?_⟩) (fun b o hc' e n=>n) (fun b o hc' e=>⟨o,?_⟩) (fun _ _ z=>z) (fun _ _ _ z=>z) (fun b ps z=>⟨#[],by rw [z];simp⟩) (fun m hn=>hn.sameBut hsame (Ne.symm (exf D hDm).1)) (fun b o e=>?_) I11.bare
            · rw [IZ.mp hb];exact ⟨.inl hDm,(exf D hDm).1,(exf D hDm).2,fun p hp=>absurd (show p∈([]:List (Addr×Obj)) from hp) (by simp)⟩
            · exact (hsame.2 b fun z=>hc' (IZ.mpr z)).trans e
            · exact (hsame.2 b fun z=>hc' (IZ.mpr z)).trans e
            · exact (hsame.2 b fun z=>hc' (IZ.mpr z)).trans e
            · refine (I11.hok b o e).nE (fun c v hc' q=>(hsame.2 c ?_).trans q) (fun _ q=>q) fun _ _ q=>q;rcases hc' with z | z
              · rw [z];exact neD e
              · exact neD z
          · refine T.keep _ _ _ t6 fun b hb o e=>(hsame.2 b ?_).trans (p3 b hb o e);exact JJ (hfp b hb)
          · rw [Array.toList_push];exact va.append (.cons ry .nil)
          · rw [IJ,Ku];exact hacc
    · refine ⟨0,none,H,[],#[],_,IB,T.keep _ _ _ h0 (fun b hb o e=>keep1 b o (hold b o e)),fun b hb=>?_,keep1 _ _ hgetD,.nil,JZ _,w0⟩;rcases Jo.mp hb with rfl | hb
      · exact hD
      · exact (hf b hb).1
  exact codeAny_compStart_list start (T.self _ 0 _ _ _ (T.keep _ _ _ h0 (fun b hb o e=>keep1 b o (hold b o e))) start)
theorem zv {X:Cx} {elt iter:Expr} {x:Str} {px pos:Pos} {ifs:List Expr} {scope:Scope} {wi:TI} {tt:TT} {te:TE} {ys:List Str} {js:List Nat} (hc:X.calm=true) (hi:PI X (.Name x px) iter wi) (B:i7 X scope x) (nd:(x :: ys).Nodup) (cap:g6 X scope ys js)
  (ht:∀ C s3 H3 ex,PTs (cxB X (x :: ys) scope C s3 H3 ex) ifs tt) (he:∀ C s3 H3 ex,PE (cxB X (x :: ys) scope C s3 H3 ex) elt te) (hs:∀ x,foldedSetIterable iter X.env x=pure x:=by intro _;rfl) :
  PE X (.ListComp elt [⟨.Name x px,iter,ifs,0⟩] scope pos) (j4 js wi tt te):=by
 intro pins s σ H Q I h;have hcl:=kg (scope:=scope) (env:=X.env) fun y hy hf=>I.ok.has y.1 (.inl (B.free y hy hf));rw [eval_ListComp];refine wpAny_comprehension_free (use:=none) rfl hs hcl B.kind B.locs (JH (hi pins s σ H _ I h) (fun xv s1 h1=>JH h1 (fun itv s2 h2=>?_) fun _ _ e=>e) fun _ _ e=>e);obtain ⟨it,fp,tn,J,H2,e,I2,T,st2,f2,W,w0,turn⟩:=h2;subst e;refine pQ (RR:=fun acc C=>compPost (model X.prog X.w) X.A X.xe none (EP X pins σ Q) acc C) hc B nd cap ht he I2 T st2 f2 W w0 turn ?_;intro D C H' s' m' hn hC hCD hCn I' q;refine ⟨m',hn,fun h' hs'=>⟨.ref D,H',?_,rfl,q⟩⟩;have hL:X.env.locals≠C:=JJ (Jm I2.lt hC);have neC:∀ {b:Addr} {o:HO},H' b=some o->b≠C:=fun e z=>by rw [z,hCn] at e;cases e
 refine I'.step (g':=s'.gens) (t':=s'.toks) (d':=s'.drawn) (ch:=[C]) (fun b hb=>?_) (fun b o _ _ hc' e _=>?_) (fun b o _ _ hc' e _=>⟨o.slots,?_⟩) (fun b o hc' e n=>n) (fun b o hc' e=>⟨o,?_⟩) (fun _ _ z=>z) (fun _ _ _ z=>z) (fun b ps z=>⟨#[],by rw [z];simp⟩) (fun m hn=>hn.sameBut hs' hL) (fun b o e=>?_) I'.bare
 ·rw [IZ.mp hb];refine ⟨.inr (Ju I2.sz hC),Ne.symm hL,fun y c e z=>?_,fun p hp z=>?_⟩
  ·obtain ⟨v,q⟩:=I2.cell y c e;have:=q.lt;rw [z] at this;exact absurd (Jm this hC) (JY _)
  ·have:=Ji (I2.pin p hp).1;rw [z] at this;exact absurd (Jm this hC) (JY _)
 ·exact (hs'.2 b fun z=>hc' (IZ.mpr z)).trans e
 ·exact (hs'.2 b fun z=>hc' (IZ.mpr z)).trans e
 ·exact (hs'.2 b fun z=>hc' (IZ.mpr z)).trans e
 ·refine (I'.hok b o e).nE (fun c v hc' q=>(hs'.2 c ?_).trans q) (fun _ q=>q) fun _ _ q=>q;rcases hc' with z | z
  ·rw [z];exact neC e
  ·exact neC z
theorem yL {X:Cx} {elt iter:Expr} {x y:Str} {px py pos spos:Pos} {ifs:List Expr} {scope:Scope} {wi:TI} {tt:TT} {te:TE} {ys:List Str} {js:List Nat} {i:Nat} (hN:X.N.Nodup) (hi':X.N[i]?=some y) (hy:X.env.scope.names.lookup y=some .local)
  (hsw:swapsWith (.ListComp elt [⟨.Name x px,iter,ifs,0⟩] scope pos) (some (.Name y py)) spos.line X.env=pure true) (hc:X.calm=true) (hi:PI X (.Name x px) iter wi) (B:i7 X scope x) (nd:(x :: ys).Nodup) (cap:g6 X scope ys js)
  (ht:∀ C s3 H3 ex,PTs (cxB X (x :: ys) scope C s3 H3 ex) ifs tt) (he:∀ C s3 H3 ex,PE (cxB X (x :: ys) scope C s3 H3 ex) elt te) (hs:∀ x,foldedSetIterable iter X.env x=pure x:=by intro _;rfl) :
  PS X (.Assign [.Name y py] (.ListComp elt [⟨.Name x px,iter,ifs,0⟩] scope pos) spos) (dW (j4 js wi tt te) (aW i)):=by
 intro pins s σ H Dn I h;have hcl:=kg (scope:=scope) (env:=X.env) fun y hy hf=>I.ok.has y.1 (.inl (B.free y hy hf));rw [exec_Assign_Name_used _ _ _ _ hsw];refine IH (wpAny_standAt (IH ?_));show wpAny _ X.A (do let _<-comprehension (.ListComp elt [⟨.Name x px,iter,ifs,0⟩] scope pos) scope X.env _ (newList []) false (eval iter X.env) (some (assign (.Name y py) X.env))) _ _ s
 refine IH (JH (wpAny_comprehension_free (use:=some (assign (.Name y py) X.env)) (Q:=fun _ s'=>SP X pins Dn .next s') rfl hs hcl B.kind B.locs
  (JH (hi pins s σ H _ I h) (fun xv s1 h1=>JH h1 (fun itv s2 h2=>?_) fun _ _ e=>e) fun _ _ e=>e)) (fun _ s' hq=>IQ (IQ hq)) fun _ _ e=>e)
 obtain ⟨it,fp,tn,J,H2,e,I2,T,st2,f2,W,w0,turn⟩:=h2;subst e;refine pQ (Q:=fun x H1=>aW i x σ H1 Dn.nx) (RR:=fun acc C=>compPost (model X.prog X.w) X.A X.xe (some (assign (.Name y py) X.env)) (fun _ s'=>SP X pins Dn .next s') acc C) hc B nd cap ht he I2 T st2 f2 W w0 turn ?_;intro D C H' s' m' hn hC hCD hCn I' q;have hL:X.env.locals≠C:=JJ (Jm I2.lt hC);have hCfs:C ∉ X.fs:=I2.BI hC;obtain ⟨oC,esC,epC,hoC,hdC,restC⟩:=id hn;have I'':Inv X (pins++[(C,oC)]) σ H' s':=I'.dC fun p hp=>by
  rcases Jx.mp hp with z | z
  ·exact I'.pin p (IS _ z)
  ·rw [IZ.mp z];exact ⟨hoC,hCn,Ne.symm hL,hCfs,fun v z=>by rw [hdC] at z;cases z⟩
 show wpAny _ X.A (assign (.Name y py) X.env (.ref D)) _ _ _;refine JH (oV (pos:=py) hN hi' (.inl hy) (.inr hy) _ s' σ H' (.ref D) (.ref D) Dn.nx I'' rfl q) (fun _ s3 ⟨σ3,H3,I3,q3⟩=>?_) fun _ _ e=>e;have pC:=I3.pin (C,oC) (IS _ (IS _ (IZ.mpr rfl)));have hn3:s3.heap.Ns C m':=⟨oC,esC,epC,pC.1,hdC,restC⟩;have hCn3:H3 C=none:=pC.2.1;refine ⟨m',hn3,fun h' hs'=>⟨σ3,H3,?_,q3⟩⟩;have I4:=I3.iT;have neC:∀ {b:Addr} {o:HO},H3 b=some o->b≠C:=fun e z=>by rw [z,hCn3] at e;cases e
 refine I4.step (g':=s3.gens) (t':=s3.toks) (d':=s3.drawn) (ch:=[C]) (fun b hb=>?_) (fun b o _ _ hc' e _=>?_) (fun b o _ _ hc' e _=>⟨o.slots,?_⟩) (fun b o hc' e n=>n) (fun b o hc' e=>⟨o,?_⟩) (fun _ _ z=>z) (fun _ _ _ z=>z) (fun b ps z=>⟨#[],by rw [z];simp⟩) (fun m hn=>hn.sameBut hs' hL) (fun b o e=>?_) I4.bare
 ·rw [IZ.mp hb];refine ⟨.inr (Ju I2.sz hC),Ne.symm hL,fun y c e z=>?_,fun p hp z=>?_⟩
  ·obtain ⟨v,q⟩:=I2.cell y c e;have:=q.lt;rw [z] at this;exact absurd (Jm this hC) (JY _)
  ·have:=Ji (I2.pin p hp).1;rw [z] at this;exact absurd (Jm this hC) (JY _)
 ·exact (hs'.2 b fun z=>hc' (IZ.mpr z)).trans e
 ·exact (hs'.2 b fun z=>hc' (IZ.mpr z)).trans e
 ·exact (hs'.2 b fun z=>hc' (IZ.mpr z)).trans e
 ·refine (I4.hok b o e).nE (fun c v hc' q=>(hs'.2 c ?_).trans q) (fun _ q=>q) fun _ _ q=>q;rcases hc' with z | z
  ·rw [z];exact neC e
  ·exact neC z
end L2
end
section
namespace L2
open PySem PySem.Spec PyProof.Rows
def Its (x:Str):It:=⟨fun i _=>i < x.length,fun i H v H'=>H'=H/\∃ c,x.cps[i]?=some c/\v=.str ⟨#[c]⟩,fun i _=>x.length<=i⟩
theorem wt {P:Program} {w:World} {K:Fg} {y:Str} {py:Pos} {x:Str} {it:Addr} {St:Nat->Heap->Prop} (W:∀ A':Around,A'.handled=none->Walks P w A' it [it] [it] x.cps.size (SignAt x) St)
  (ob:∀ i h,St i h->∃ o,h.get? it=some o/\∀ v,o.data≠.cell v) (hs:∀ (A:Around) i (s:Shared) (Q:Value->Shared->Prop) (E:Value->Shared->Prop),St i s.heap->Q (.ref it) s->wpAny (model P w) A (pyIter (.ref it)) Q E s) :
  Turn P w K (.Name y py) (Its x) [it] it (fun i h=>i<=x.cps.size/\St i h) where
 mem:=by simp
 obj:=fun i h st b hb=>by
  have e:b=it:=by simpa using hb
  subst e;exact ob i h st.2
 keep:=fun i h h' st k=>⟨st.1,(W { depth:=0,frames:=none,guards:=none,units:=0,handled:=none } rfl).frame i h h' st.2 fun b hb o e=>k b hb o e⟩
 item:=by
  intro X hP hw hK hc i pins s σ H E I hf st hg;subst hP hw hK;obtain ⟨f0,f1,f2,f3,f4,f5⟩:=hf it (by simp);refine (W X.A (I.ok.hd hc)).item i s _ _ hg st.2 fun v h' tk hv st' kk=>?_;obtain ⟨c,t,hcps,rfl⟩:=hv;have I1:Inv X pins σ H { s with heap:=h',toks:=tk }:=I.turned (fun b o hb e=>kk b o (by simpa using hb) e) f0 f1 f3 f4 f5;exact ⟨_,rfl,IQ (show _ from ⟨.str ⟨#[c]⟩,H,I1,⟨t,rfl⟩,⟨rfl,c,hcps,rfl⟩,⟨hg,st'⟩,fun b hb=>(hf b hb).1⟩)⟩
 done:=by
  intro X hP hw hK hc i pins s σ H E I hf st hg;subst hP hw hK;obtain ⟨f0,f1,f2,f3,f4,f5⟩:=hf it (by simp);have e:i=x.cps.size:=Nat.le_antisymm st.1 hg;subst e;exact (W X.A (I.ok.hd hc)).done s _ _ st.2 fun h' tk kk=>⟨rfl,I.turned (fun b o hb e=>kk b o (by simpa using hb) e) f0 f1 f3 f4 f5⟩
 self:=fun A i s Q E st h=>hs A i s Q E st.2 h
def DR (tl:TE):TI:=fun σ H R=>tl σ H fun x H1=>∃ z,x=.str z/\R (Its z) H1
theorem Aq {X:Cx} {y:Str} {py:Pos} {l:Expr} {tl:TE} (hl:PE X l tl):PI X (.Name y py) l (DR tl):=by
 intro pins s σ H R I h;refine thn (hl pins s σ H _ I h) fun v s1 ⟨x,H1,I1,r1,q1⟩=>?_;obtain ⟨z,e,q⟩:=q1;subst e;obtain ⟨t,rfl⟩:=r1;have hn:H1 s1.heap.objs.size=none:=I1.hok.fresh (IY _);have key:∀ (T:String) (sz:T = "str_ascii_iterator" \/ T = "str_iterator"),PIE X pins σ (.Name y py) R (.ref s1.heap.objs.size) { s1 with heap:=s1.heap.push { cls:=.type T,data:=.fields #[.str z t,.int 0 0] } }:=fun T sz=>by
  have I2:Inv X pins σ H1 { s1 with heap:=s1.heap.push { cls:=.type T,data:=.fields #[.str z t,.int 0 0] },toks:=s1.toks }:=I1.kept fun b o e=>Ja _ e;have st0:(s1.heap.push { cls:=.type T,data:=.fields #[.str z t,.int 0 0] }).IsStrIter s1.heap.objs.size T z t 0:=⟨_,Jt _ rfl,rfl,rfl⟩;refine ⟨s1.heap.objs.size,[s1.heap.objs.size],fun i h=>i<=z.cps.size/\h.IsStrIter s1.heap.objs.size T z t i,Its z,H1,rfl,I2,?_,⟨JZ _,st0⟩,fun b hb=>?_,q⟩
  ·refine wt (fun A' hA=>?_) (fun i h st=>?_) fun A i s Q E st hq=>?_
   ·rcases sz with rfl | rfl
    ·exact Walks.strAscii hA _ z t
    ·exact Walks.strWide hA _ z t
   ·obtain ⟨o,e,c,d⟩:=st;exact ⟨o,e,fun v z=>by rw [d] at z;cases z⟩
   ·rcases sz with rfl | rfl
    ·exact wpAny_pyIter_striter_ascii st hq
    ·exact wpAny_pyIter_striter_wide st hq
  ·rw [IZ.mp hb];exact I1.DQ (IY _) hn
 cases ha:z.cps.all (· < 128)
 ·exact wpAny_pyIter_wide ha (key _ (.inr rfl))
 ·exact wpAny_pyIter_ascii ha (key _ (.inl rfl))
section
variable {X:Cx}
theorem uG:OpR X (compareOp .LtE) (fun x y H Q=>∃ i j,x=.str i/\y=.str j/\Q (.bl (!(decide (j.cps.toList < i.cps.toList)))) H):=by
 intro pins s σ H x y v u Q I rx ry h;obtain ⟨i,j,rfl,rfl,q⟩:=h;obtain ⟨t,rfl⟩:=rx;obtain ⟨t',rfl⟩:=ry;exact P.le_str ⟨.bl _,H,I,rfl,q⟩
theorem OpR.or' {f:Value->Value->Sem Value} {r r':R2} (h:OpR X f r) (h':OpR X f r'):OpR X f (fun x y H Q=>r x y H Q\/r' x y H Q):=by
 intro pins s σ H x y v u Q I rx ry q;rcases q with q | q
 ·exact h pins s σ H x y v u Q I rx ry q
 ·exact h' pins s σ H x y v u Q I rx ry q
theorem v8:OpR X (binaryOp .FloorDiv) (rI (fun _ j=>0 < j/\j.natAbs.log2 < 9000) fun i j=>.int (i / j)):=opI fun i j _ _ _ _ _ hc q=>by
 have h1:(0:Int) < j:=hc.1;exact floordiv_int (by omega) (by rw [Int.fdiv_eq_ediv_of_nonneg i (by omega)];exact q) (.inl (PyProof.noPylong_of_log2 hc.2))
theorem tO (hc:X.calm=true):bM X (.builtin "all") (fun xs H Q=>∃ (a:Addr) (bs:List Bool),xs=[.ref a]/\SqL X.K H a (bs.map V.bl)/\Q (.bl (bs.all id)) H):=by
 intro pins s σ H xs us Q I r h;obtain ⟨a,bs,rfl,hq,q⟩:=h;obtain ⟨u,rfl,r1⟩:=vals1 r;cases (show u=Value.ref a from r1);obtain ⟨its,rv,p,hz⟩:=I.list hq;have ha:a < s.heap.objs.size:=by
  obtain ⟨o,e,_⟩:=p.isList;exact Ji e
 refine call_all_walk (wpAny_pyIter_list p.isList ?_);refine ⟨s.heap.objs.size,_,_,_,_,_,fun i=>(bs[i]?).getD true,rfl,Walks.list (show X.A.in1.handled=none from I.ok.hd hc) s.heap.objs.size a (JJ ha) its.toArray,⟨⟨_,Jt _ rfl,rfl,rfl⟩,p.isList.push _⟩,?_,?_⟩
 ·intro i v s' Q' E' hv hQ;have hv':its[i]?=some v:=by simpa using hv
  have hi:i < its.length:=(IL.mp hv').1;have hb:i < bs.length:=by have:=rv.length;rw [IK] at this;omega
  obtain ⟨u,hu,ru⟩:=rv.get (i:=i) (x:=.bl bs[i]) (by rw [Jd,II hb];rfl);rw [hv'] at hu;cases hu;cases (show v=Value.bool bs[i] from ru);dsimp only at hQ;rw [II hb] at hQ;exact JR hQ
 ·intro h' tk kk;have e:(List.range its.toArray.size).all (fun i=>(bs[i]?).getD true)=bs.all id:=by
   have hl:its.toArray.size=bs.length:=by rw [IW,<-rv.length,IK]
   rw [hl,Bool.eq_iff_iff,KZ,KZ];constructor
   ·intro h b hb;obtain ⟨i,hi,e⟩:=List.mem_iff_getElem.mp hb;have:=h i (List.mem_range.mpr hi);rw [II hi,e] at this;exact this
   ·intro h i hi;rw [II (List.mem_range.mp hi)];exact h _ (Lf _)
  rw [e];have I1:Inv X pins σ H { s with heap:=s.heap.push { cls:=.type "list_iterator", data:=.fields #[.ref a,rawInt 0] },toks:=s.toks }:=I.kept fun b o e=>Ja _ e;have hn:H s.heap.objs.size=none:=I.hok.fresh (IY _)
  have I2:Inv X pins σ H { s with heap:=h',toks:=tk }:=I.kept fun b o e=>kk b o (by
   intro z;have:=IZ.mp z;rw [this] at e
   exact absurd (Ji e) (JY _)) (Ja _ e)
  exact ⟨.bl _,H,I2,rfl,q⟩
def vv (x:Str) (lo hi:Option Int):Str:=⟨((x.cps.toList.drop (HT.sIx x.length 0 lo)).take (HT.sIx x.length x.length hi - HT.sIx x.length 0 lo)).toArray⟩
theorem EY (lo hi:Option Int) (n:Nat):Builtin.Str.strSliceIndices lo hi 1 n=(List.range (HT.sIx n n hi - HT.sIx n 0 lo)).map (HT.sIx n 0 lo+·):=by
 rw [<- sliceRange_one];unfold Builtin.Str.strSliceIndices;dsimp only;have h1:(1:Int) > 0:=by decide
 have e0:(match lo with | none=>(if (1:Int) > 0 then 0 else (n:Int) - 1) | some i=>if (1:Int) > 0 then max 0 (min (if i < 0 then i+(n:Int) else i) (n:Int)) else max (-1) (min (if i < 0 then i+(n:Int) else i) ((n:Int) - 1)))=((HT.sIx n 0 lo:Nat):Int):=by
  cases lo with
  | none=>simp [HT.sIx]
  | some i =>
   simp only [HT.sIx,h1,K8];by_cases h:i < 0
   ·simp only [h,K8] <;> omega
   ·simp only [h,KG] <;> omega
 have e1:(match hi with | none=>(if (1:Int) > 0 then (n:Int) else -1) | some i=>if (1:Int) > 0 then max 0 (min (if i < 0 then i+(n:Int) else i) (n:Int)) else max (-1) (min (if i < 0 then i+(n:Int) else i) ((n:Int) - 1)))=((HT.sIx n n hi:Nat):Int):=by
  cases hi with
  | none=>simp [HT.sIx]
  | some i =>
   simp only [HT.sIx,h1,K8];by_cases h:i < 0
   ·simp only [h,K8] <;> omega
   ·simp only [h,KG] <;> omega
 rw [<- e0,<-e1];cases lo <;> cases hi <;> rfl
theorem pV (n:Nat) (v:Option Int):HT.sIx n n v<=n/\HT.sIx n 0 v<=n:=by
 cases v with
 | none=>simp [HT.sIx]
 | some i =>
  simp only [HT.sIx];split <;> omega
def EF:V->Option Int->Option Int->Hp->VK->Prop:=fun x lo hi H Q=>∃ z,x=.str z/\z.length<=sizeLine/\Q (.str (vv z lo hi)) H
theorem ja (x:Str) (lo hi:Option Int):(vv x lo hi).length<=x.length:=by
 have e:x.cps.toList.length=x.length:=by simp [Str.length]
 show (((x.cps.toList.drop _).take _).toArray).size<=x.length;rw [IW,JN,Kk,e];omega
theorem Au:SlR X EF:=by
 intro pins s σ H x v vl vu lo hi sl Q I rx hs pl pu h;obtain ⟨z,rfl,hz,q⟩:=h;obtain ⟨t,rfl⟩:=rx;refine ⟨"str", _,F.slot_str_getitem.lookup,typeIs_str _ _ _,?_⟩;obtain ⟨l,el,el'⟩:∃ l:Option (Int×Tok),l.map (·.1)=lo/\vl=partValue l:=by
  cases pl with
  | none=>exact ⟨none,rfl,rfl⟩
  | int i t=>exact ⟨some (i,t),rfl,rfl⟩
 obtain ⟨u,eu,eu'⟩:∃ l:Option (Int×Tok),l.map (·.1)=hi/\vu=partValue l:=by
  cases pu with
  | none=>exact ⟨none,rfl,rfl⟩
  | int i t=>exact ⟨some (i,t),rfl,rfl⟩
 subst el' eu';obtain ⟨o,h1,h2,h3⟩:=hs;refine wpAny_getItem_str_slice (l:=l) (u:=u) (st:=none) ⟨o,h1,h2,h3⟩ rfl ?_;have pk:slicePicked z l u none=(List.range (HT.sIx z.length z.length hi - HT.sIx z.length 0 lo)).map (HT.sIx z.length 0 lo+·):=by
  rw [<- EY,<-el,<-eu];rfl
 have ez:z.cps.toList.length=z.length:=by simp [Str.length]
 have cut:(⟨((slicePicked z l u none).filterMap (z.cps[·]?)).toArray⟩:Str)=vv z lo hi:=by
  rw [pk,pick_run];rfl
 unfold sliceMade;split
 ·rename_i hc;have hl:(slicePicked z l u none).length=z.length:=by
   have:=(Bool.and_eq_true_iff.mp hc).2;simpa using this
  rw [pk,IK,J5] at hl;have b1:=pV z.length hi;have b2:=pV z.length lo;have h0:HT.sIx z.length 0 lo=0\/z.length=0:=by omega
  have e:vv z lo hi=z:=by
   unfold vv;rcases h0 with h0 | h0
   ·rw [h0,K5,Kh (by omega)]
   ·have hn:z.cps.toList=[]:=Jv (by omega);rw [hn];have:z.cps=#[]:=by
     have:=congrArg List.toArray hn;simpa using this
    obtain ⟨c⟩:=z;simp only at this;subst this;simp
  rw [e] at q;exact ⟨.str z,H,I,⟨t,rfl⟩,q⟩
 ·rw [cut];exact ⟨Ju (ja _ _ _) hz,⟨.str _,H,I.tok _,⟨_,rfl⟩,q⟩⟩
end
mutual
def Dn (p:Addr) (H:Hp):PyData->V->Prop
 | .none,v=>v=.non
 | .bool b,v=>v=.bl b
 | .int i,v=>v=.int i
 | .str x,v=>v=.str x
 | .list ds,v=>∃ a xs,v=.ref a/\a≠p/\H a=some (.lst xs)/\DnL p H ds xs
 | .tuple ds,v=>∃ a xs,v=.ref a/\a≠p/\H a=some (.tup xs)/\DnL p H ds xs
 | .dict kvs,v=>kvs=[]/\∃ a,v=.ref a/\a≠p/\H a=some (.dK [])
def DnL (p:Addr) (H:Hp):List PyData->List V->Prop
 | [],vs=>vs=[]
 | d :: ds,vs=>∃ v r,vs=v :: r/\Dn p H d v/\DnL p H ds r
end
section
variable {X:Cx}
end
end L2
end
section
namespace L2
open PySem PySem.Spec PyProof.Rows
section
variable {t u:TS} {D:Ends} {σ:St} {H:Hp} {te ta tb tc:TE} {g:TG} {Q:VK} {c a b:TT} {QB:Bool->Hp->Prop} {i:Nat} {v x y:V} {r r':R2} {QA:List V->Hp->Prop} {tA tR:TA} {sp:Sp} {dvs:List V} {E:XK}
end
def rOr (r r':R2):R2:=fun x y H Q=>r x y H Q\/r' x y H Q
def Be (r r':V->Option Int->Option Int->Hp->VK->Prop):V->Option Int->Option Int->Hp->VK->Prop:=fun x l u H Q=>r x l u H Q\/r' x l u H Q
def Az:R2:=fun x y H Q=>∃ i j,x=.str i/\y=.str j/\i.length+j.length<=sizeLine/\Q (.str (i++j)) H
def E8:R2:=fun x y H Q=>∃ i j,x=.str i/\y=.str j/\Q (.bl (decide (i.cps.toList < j.cps.toList))) H
def GW:R2:=fun x y H Q=>∃ i j,x=.str i/\y=.str j/\Q (.bl (!(decide (j.cps.toList < i.cps.toList)))) H
def Ik:R2:=fun x y H Q=>∃ i j,x=.str i/\y=.str j/\Q (.bl (!(Builtin.Str.occurrences j i 0 j.length 1).isEmpty)) H
def zL:R2:=fun x y H Q=>∃ i j,x=.str i/\y=.str j/\Q (.bl (!(!(Builtin.Str.occurrences j i 0 j.length 1).isEmpty))) H
def GX (K:Fg):List V->Hp->VK->Prop:=fun xs H Q=>∃ (a:Addr) (bs:List Bool),xs=[.ref a]/\SqL K H a (bs.map V.bl)/\Q (.bl (bs.all id)) H
def C3 (K:Fg):List V->Hp->VK->Prop:=fun xs H Q=>∃ x n,xs=[x]/\G7 K x H n/\Q (.int n) H
def Eh:List V->Hp->VK->Prop:=fun xs H Q=>∃ i,xs=[.int i]/\Q (.int (if i < 0 then -i else i)) H
def BL:List V->Hp->VK->Prop:=fun xs H Q=>(∃ i,xs=[.int i]/\Q (.int i) H)\/∃ k,xs=[.bl k]/\Q (.int (if k then 1 else 0)) H
section
variable {X:Cx}
theorem orR {f:Value->Value->Sem Value} {r r':R2} (h:OpR X f r) (h':OpR X f r'):OpR X f (rOr r r'):=OpR.or' h h'
theorem orS {r r':V->Option Int->Option Int->Hp->VK->Prop} (h:SlR X r) (h':SlR X r'):SlR X (Be r r'):=SlR.or h h'
theorem yh:OpR X (binaryOp .Add) Az:=ri
theorem C4:OpR X (compareOp .Lt) E8:=rV
theorem A4:OpR X (compareOp .LtE) GW:=uG
theorem BF:OpR X (compareOp .In) Ik:=sx
theorem rM:OpR X (compareOp .NotIn) zL:=mV
theorem tf (hc:X.calm=true):bM X (.builtin "all") (GX X.K):=tO hc
theorem vb:bM X (.builtin "len") (C3 X.K):=wJ
theorem rY:bM X (.builtin "abs") Eh:=vG
theorem uQ:bM X (.type "int") BL:=uw
end
end L2
namespace L2
open PySem
def pK (sc scope:Scope) (x:Str):Bool :=
 (scope.kind==.function)&&scope.names.all (fun y=>y.2 != .cell)&&scope.names.all (fun y=>y.2 != .local||scope.names.lookup y.1==some .local)&&(scope.names.lookup x==some .local)&&scope.names.all (fun y=>y.2 != .free||sc.names.lookup y.1==some .cell)
theorem bsc {X:Cx} {sc scope:Scope} {x:Str} (e:X.env.scope=sc) (h:pK sc scope x=true):i7 X scope x:=by
 unfold pK at h;simp only [JL,KZ,Bool.or_eq_true,bne_iff_ne,JD,ne_eq] at h;obtain ⟨⟨⟨⟨h1,h2⟩,h3⟩,h4⟩,h5⟩:=h;exact ⟨h1,fun y hy=>h2 y hy,fun y hy e=>(h3 y hy).resolve_left fun z=>z e,h4,fun y hy e'=>by rw [e];exact (h5 y hy).resolve_left fun z=>z e'⟩
end L2
namespace L2
open PySem
theorem bU {e:Expr} {es:List Expr} {env:Env} (h:PySem.W.isStarred e=false):starEach (e :: es) env=(false,eval e env) :: starEach es env:=by
 cases e <;> first | rfl | exact absurd h (by simp [PySem.W.isStarred])
theorem eo {pos:Pos} {env:Env}:∀ {es:List Expr},es.all (fun e=>!PySem.W.isStarred e)=true->(backTo pos (starEach es env)).any (·.1)=false
 | [],_=>rfl
 | e :: es,h=>by
  rw [List.all_cons,JL] at h;rw [bU (by simpa using h.1)];have ih:=eo (pos:=pos) (env:=env) h.2;unfold backTo at ih ⊢;rw [JK,Ld,ih];rfl
section
variable {X:Cx} {e:Expr} {es:List Expr} {te:TE} {t:TA} {x:Str} {p pos:Pos} {id T:String} {r:List V->Hp->VK->Prop} {CX:CXT} {k:Nat} {f:Addr} {fd:FuncData} {ps:List Str} {sp:Sp} {ds:List Value} {dvs:List V} {E:XK}
end
end L2
end
section
namespace L2
open PySem
structure JE (X:Cx) (e:Expr) (t:TE):Prop where
 h:PE X e t
structure JT (X:Cx) (e:Expr) (t:TT):Prop where
 h:PT X e t
structure JW (X:Cx) (e:Expr) (t:TT):Prop where
 h:PW X e t
structure JA (X:Cx) (es:List Expr) (t:TA):Prop where
 h:PA X es t
structure JS (X:Cx) (s:Stmt) (t:TS):Prop where
 h:PS X s t
structure JSs (X:Cx) (s:List Stmt) (t:TS):Prop where
 h:PSs X s t
structure JG (X:Cx) (e:Expr) (t:TG):Prop where
 h:PG X e t
structure JI (X:Cx) (tg e:Expr) (t:TI):Prop where
 h:PI X tg e t
structure JO (X:Cx) (e:Option Expr) (t:TO):Prop where
 h:PO X e t
structure JC (X:Cx) (N:List Str) (scope:Scope) (e:Expr) (t:TE):Prop where
 h:∀ C s3 H3 ex,PE (cxB X N scope C s3 H3 ex) e t
structure JTs (X:Cx) (N:List Str) (scope:Scope) (e:List Expr) (t:TT):Prop where
 h:∀ C s3 H3 ex,PTs (cxB X N scope C s3 H3 ex) e t
structure JP (X:Cx) (pos:Pos) (ks:List (Option Expr)) (vs:List Expr) (t:List (TE×TE)):Prop where
 h:PPs X pos ks vs t
section
variable {X:Cx} {e a b c:Expr} {es rest:List Expr} {te ta tb tc:TE} {tA tB':TT} {t:TA} {x:Str} {p pos:Pos} {id T:String} {r:List V->Hp->VK->Prop} {CX:CXT} {k:Nat} {f:Addr} {fd:FuncData} {ps:List Str} {sp:Sp} {ds:List Value} {dvs:List V} {E:XK}
theorem ai (i:Nat) (hN:X.N[i]?=some x) (hv:Vis X.env.scope x) (hd:(x==("__debug__" : Str))=false) (hcd:(x==("__classdict__" : Str))=false):JE X (.Name x pos) (ah i):=⟨Dv hN hv hd hcd⟩
theorem bb {i j}:JE X (.Constant (.int i) j pos) (tC (.int i)):=⟨AZ⟩
theorem eBl {b j}:JE X (.Constant (.bool b) j pos) (tC (.bl b)):=⟨GF⟩
theorem eM {x j}:JE X (.Constant (.str x) j pos) (tC (.str x)):=⟨DD⟩
theorem aR:JA X [] aB:=⟨Al⟩
theorem eA (ha:JE X e te) (hr:JA X es t) (h:PySem.W.isStarred e=false):JA X (e :: es) (ab te t):=⟨yC ha.h hr.h (bU h)⟩
theorem aJ (F:dU X.prog X.w X.K X.mg X.base CX k f fd ps sp) (hr:cp k X.A) (hg:Gl X x) (hm:X.mg x=some (.ref f)) (hk:PySem.W.keepIn X.K (.ref f)=true) (hb:Binds X.K fd ps ds) (hd:Vals dvs ds) (hx:Passes CX X E)
  (ha:JA X (e :: es) t) (h1:PySem.W.isStarred e=false) (h2:es.all (fun e=>!PySem.W.isStarred e)=true) (hdb:(x==("__debug__" : Str))=false):JE X (.Call (.Name x p) (e :: es) [] pos) (aG sp dvs E t) :=
 ⟨yg F hr hg hm hk hb hd hx ha.h hdb (bU h1) (eo h2)⟩
theorem eB (hc:bM X (.builtin id) r) (hg:Gl X x) (hm:X.mg x=none) (hv:bootBuiltins x=some (.builtin id)) (ha:JA X (e :: es) t) (h1:PySem.W.isStarred e=false) (h2:es.all (fun e=>!PySem.W.isStarred e)=true)
  (hn:x ≠ "__name__") (hdb:(x==("__debug__" : Str))=false):JE X (.Call (.Name x p) (e :: es) [] pos) (tCB r t):=⟨vL hc hg hm hv ha.h hn hdb (bU h1) (eo h2)⟩
theorem eTy (hc:bM X (.type T) r) (hg:Gl X x) (hm:X.mg x=none) (hv:bootBuiltins x=some (.type T)) (ha:JA X (e :: es) t) (h1:PySem.W.isStarred e=false) (h2:es.all (fun e=>!PySem.W.isStarred e)=true)
  (hn:x ≠ "__name__") (hdb:(x==("__debug__" : Str))=false):JE X (.Call (.Name x p) (e :: es) [] pos) (tCB r t):=⟨ub hc hg hm hv ha.h hn hdb (bU h1) (eo h2)⟩
theorem eR1 {tg a:Expr} {ta:TA} (hg:Gl X "range") (hm:X.mg "range" = none) (ha:JA X [a] ta) (h:PySem.W.isStarred a=false):JI X tg (.Call (.Name "range" p) [a] [] pos) (ma ta):=⟨tZ hg hm ha.h (bU h)⟩
theorem eIL {tg:Expr} (h:JE X e te):JI X tg e (qO X.K te):=⟨sr h.h⟩
theorem eIS {y:Str} {py:Pos} (h:JE X e te):JI X (.Name y py) e (DR te):=⟨Aq h.h⟩
theorem zU {v:V} {u:Value} (hg:Gl X x) (hm:X.mg x=some u) (r:RelV v u) (hd:(x==("__debug__" : Str))=false):JE X (.Name x pos) (tC v):=⟨sJ hg hm r hd⟩
theorem pb {v:V} {u:Value} (hg:Gl X x) (hm:X.mg x=none) (hv:bootBuiltins x=some u) (r:RelV v u) (hn:x ≠ "__name__") (hd:(x==("__debug__" : Str))=false):JE X (.Name x pos) (tC v):=⟨zE hg hm hv r hn hd⟩
theorem eOp {op:Operator} {r:R2} (ho:OpR X (binaryOp op) r) (ha:JE X a ta) (hb:JE X b tb):JE X (.BinOp a op b pos) (tOp r ta tb):=⟨Ff ho ha.h hb.h⟩
theorem eUn {op:UnaryOp} {r:V->Hp->VK->Prop} (ho:UnR X (unaryOp op) r) (ha:JE X a ta):JE X (.UnaryOp op a pos) (tUn r ta):=⟨Et ho ha.h⟩
theorem Iw (ha:JE X a ta):JE X (.UnaryOp .Not a pos) (wZ ta):=⟨Bj ha.h⟩
theorem Ae {op} (h:JE X a te):JE X (.BoolOp op [a] pos) te:=⟨B9 h.h⟩
theorem xZ (ha:JE X a ta) (hb:JE X (.BoolOp .And (b :: rest) pos) tb):JE X (.BoolOp .And (a :: b :: rest) pos) (jE ta tb):=⟨BH ha.h hb.h⟩
theorem eOr (ha:JE X a ta) (hb:JE X (.BoolOp .Or (b :: rest) pos) tb):JE X (.BoolOp .Or (a :: b :: rest) pos) (CV ta tb):=⟨GH ha.h hb.h⟩
theorem vK {op:CmpOp} {r:R2} (ho:OpR X (compareOp op) r) (ha:JE X a ta) (hb:JE X b tb) (hm:behindInMarks op b=false):JE X (.Compare a [op] [b] pos) (tOp r ta tb):=⟨yz ho ha.h hb.h hm⟩
theorem cE {op:CmpOp} {r:R2} (ho:OpR X (compareOp op) r) (ha:JE X a ta) (hb:JE X b tb) (hm:behindInMarks op b=false):JT X (.Compare a [op] [b] pos) (b5 (tOp r ta tb)):=⟨zq ho ha.h hb.h hm⟩
theorem AF {op op':CmpOp} {r r':R2} (ho:OpR X (compareOp op) r) (ho':OpR X (compareOp op') r') (ha:JE X a ta) (hb:JE X b tb) (hc:JE X c tc) (hm:lastMarks [op,op'] [b,c]=false):JE X (.Compare a [op,op'] [b,c] pos) (jk r r' ta tb tc):=⟨v9 ho ho' ha.h hb.h hc.h hm⟩
theorem ym {op op':CmpOp} {r r':R2} (ho:OpR X (compareOp op) r) (ho':OpR X (compareOp op') r') (ha:JE X a ta) (hb:JE X b tb) (hc:JE X c tc) (hm:lastMarks [op,op'] [b,c]=false):JT X (.Compare a [op,op'] [b,c] pos) (b5 (jk r r' ta tb tc)):=⟨xa ho ho' ha.h hb.h hc.h hm⟩
theorem qJ (h:JE X e te) (he:∀ whole,isTrue e X.env whole=(do let v<-whole;standAt e.pos;holding [v] (truthy v))):JT X e (tB te):=⟨AL h.h he⟩
theorem j7 (ha:JT X a tA):JT X (.UnaryOp .Not a pos) (ql tA):=⟨DB ha.h⟩
theorem ya (ha:JT X a tA):JW X (.BoolOp .And [a] pos) tA:=⟨pw_and1 ha.h⟩
theorem m5 (ha:JT X a tA):JW X (.BoolOp .Or [a] pos) tA:=⟨pw_or1 ha.h⟩
theorem Dg (ha:JT X a tA) (hb:JW X (.BoolOp .And (b :: rest) pos) tB'):JW X (.BoolOp .And (a :: b :: rest) pos) (AM tA tB'):=⟨pw_and ha.h hb.h⟩
theorem vA (ha:JT X a tA) (hb:JW X (.BoolOp .Or (b :: rest) pos) tB'):JW X (.BoolOp .Or (a :: b :: rest) pos) (tOr tA tB'):=⟨pw_or ha.h hb.h⟩
theorem eW (h:JW X e tA):JT X e tA:=⟨PW.pt h.h⟩
theorem vz {x1} (h:JA X es t):JE X (.Tuple es x1 pos) (rm t):=⟨Cc h.h⟩
theorem CT (h:JA X es t):JE X (.List es pos) (xb t):=⟨Co h.h⟩
theorem eIx {r:R2} (hr:IxR X r) (ha:JE X a ta) (hb:JE X b tb) (hs:sO b):JE X (.Subscript a b pos) (tOp r ta tb):=⟨EG hr ha.h hb.h hs⟩
theorem D3:JO X none jL:=⟨yq⟩
theorem eP (h:JE X e te):JO X (some e) (vH te):=⟨z7 h.h⟩
theorem eSl {p2:Pos} {lo hi:Option Expr} {tl th:TO} {r:V->Option Int->Option Int->Hp->VK->Prop} (hr:SlR X r) (he:JE X e te) (hl:JO X lo tl) (hu:JO X hi th):JE X (.Subscript e (.Slice lo hi none p2) pos) (tSl r te tl th):=⟨vM hr he.h hl.h hu.h⟩
theorem ePN:JP X pos [] [] []:=⟨zX⟩
theorem ePC {k v:Expr} {ks:List (Option Expr)} {vs:List Expr} {tk tv:TE} {trs:List (TE×TE)} (hk:JE X k tk) (hv:JE X v tv) (hr:JP X pos ks vs trs):JP X pos (some k :: ks) (v :: vs) ((tk,tv) :: trs):=⟨wW hk.h hv.h hr.h⟩
theorem fP {i:Nat} {pos':Pos} (he:JE X e te) (hN:X.N.Nodup) (hi:X.N[i]?=some x) (hx:Loc X.env.scope x) (hs:swapsWith e (some (.Name x pos')) pos.line X.env=pure false) (hf:X.fn x=true\/X.env.scope.names.lookup x=some .local) :
  JS X (.Assign [.Name x pos'] e pos) (dW te (aW i)):=⟨AX hN hi hx he.h hs hf⟩
theorem AJ {iter tg:Expr} {body:List Stmt} {wi:TI} {g:TG} {tb:TS} (hi:JI X tg iter wi) (hg:JG X tg g) (hb:JSs X body tb) (hp:PassesOwn (model X.prog X.w) X.A X.env X.xe) (hc:X.calm=true) (hs:∀ x,foldedSetIterable iter X.env x=pure x):JS X (.For tg iter body [] pos) (we wi g tb):=⟨AQ hp hc hi.h hg.h hb.h hs⟩
theorem Cy {c:Expr} {body:List Stmt} {tc:TT} {tb:TS} (hc:JT X c tc) (hb:JSs X body tb) (hp:PassesOwn (model X.prog X.w) X.A X.env X.xe):JS X (.While c body [] pos) (pq tc tb):=⟨vX hp hc.h hb.h⟩
theorem iA {a b:List Stmt} {tc:TT} {t u:TS} (hc:JT X c tc) (ha:JSs X a t) (hb:JSs X b u):JS X (.If c a b pos) (fX tc t u):=⟨Gv hc.h ha.h hb.h⟩
theorem cK (he:JE X e te):JS X (.Return (some e) pos) (cI te):=⟨CC he.h⟩
theorem eGN {i:Nat} (hN:X.N.Nodup) (hi:X.N[i]?=some x) (hx:Loc X.env.scope x) (hf:X.fn x=true\/X.env.scope.names.lookup x=some .local):JG X (.Name x pos) (aW i):=⟨oV hN hi hx hf⟩
theorem yr (he:JE X e te) (hs:swapsWith e none pos.line X.env=pure false):JS X (.Expr e pos) (qN te):=⟨yi he.h hs⟩
theorem iz:JSs X [] bT:=⟨zf⟩
theorem b7 {s:Stmt} {t:TS} (h:JS X s t):JSs X [s] t:=⟨yN h.h⟩
theorem bP {s:Stmt} {rest:List Stmt} {t u:TS} (h:JS X s t) (hr:JSs X rest u):JSs X (s :: rest) (bL t u):=⟨wX h.h hr.h⟩
theorem wU {elt iter:Expr} {px:Pos} {ifs:List Expr} {scope:Scope} {wi:TI} {tt:TT} {js:List Nat} (ys:List Str) (hi:JI X (.Name x px) iter wi) (ht:JTs X (x :: ys) scope ifs tt) (he:JC X (x :: ys) scope elt te)
  (hc:X.calm=true) (B:i7 X scope x) (nd:(x :: ys).Nodup) (cap:g6 X scope ys js) (hs:∀ x,foldedSetIterable iter X.env x=pure x):JE X (.ListComp elt [⟨.Name x px,iter,ifs,0⟩] scope pos) (j4 js wi tt te):=⟨zv hc hi.h B nd cap ht.h he.h hs⟩
theorem ER {elt iter:Expr} {y:Str} {px py spos:Pos} {ifs:List Expr} {scope:Scope} {wi:TI} {tt:TT} {js:List Nat} {i:Nat} (ys:List Str) (hi:JI X (.Name x px) iter wi) (ht:JTs X (x :: ys) scope ifs tt) (he:JC X (x :: ys) scope elt te)
  (hN:X.N.Nodup) (hi':X.N[i]?=some y) (hy:X.env.scope.names.lookup y=some .local) (hsw:swapsWith (.ListComp elt [⟨.Name x px,iter,ifs,0⟩] scope pos) (some (.Name y py)) spos.line X.env=pure true)
  (hc:X.calm=true) (B:i7 X scope x) (nd:(x :: ys).Nodup) (cap:g6 X scope ys js) (hs:∀ x,foldedSetIterable iter X.env x=pure x):JS X (.Assign [.Name y py] (.ListComp elt [⟨.Name x px,iter,ifs,0⟩] scope pos) spos) (dW (j4 js wi tt te) (aW i)):=⟨yL hN hi' hy hsw hc hi.h B nd cap ht.h he.h hs⟩
theorem eC {N:List Str} {scope:Scope} (h:∀ C s3 H3 ex,JE (cxB X N scope C s3 H3 ex) e te):JC X N scope e te:=⟨fun C s3 H3 ex=>(h C s3 H3 ex).h⟩
theorem eT0 {N:List Str} {scope:Scope}:JTs X N scope [] xp:=⟨fun _ _ _ _=>yt⟩
theorem eBM {apos cpos:Pos} {o:Expr} {name:Str} {to:TE} {r:V->List V->Hp->VK->Prop} (ho:JE X o to) (ha:JA X (e :: es) t) (hm:MtR X id r) (pa:PlainAttrs T) (slot:Slot T name id) (hty:typeOf (.builtin id)=pure (.type "method_descriptor"))
  (hbase:attributeBase o name X.env (eval o X.env)=eval o X.env)
  (hfew:((backTo cpos (starEach (e :: es) X.env)).all (fun x=>!x.1)&&(backToKw cpos (keywordEach [] X.env)).all (fun x=>x.1.isSome)
   && decide ((e :: es).length+([]:List Keyword).length+(if ([]:List Keyword).isEmpty then 0 else 1) < 30))=true)
  (hline:(apos.endLine==cpos.line)=true) (h1:PySem.W.isStarred e=false) (h2:es.all (fun e=>!PySem.W.isStarred e)=true):JE X (.Call (.Attribute o name apos) (e :: es) [] cpos) (tBM X.K T r to t):=⟨F7 pa slot hty hm ho.h ha.h hbase hfew hline (bU h1) (eo h2)⟩
end
end L2
end
section
namespace L2
open PySem PySem.Spec PyProof.Rows
def tyN:PyData->String
 | .none => "NoneType" | .bool _ => "bool" | .int _ => "int" | .str _ => "str" | .list _ => "list" | .tuple _ => "tuple" | .dict _ => "dict"
def isS:PyData->Bool | .str _=>true | _=>false
def isI:PyData->Bool | .int _=>true | .bool _=>true | _=>false
def isB:PyData->Bool | .bool _=>true | _=>false
def isT:PyData->Bool | .tuple _=>true | _=>false
def isL:PyData->Bool | .list _=>true | _=>false
section
variable {K:Fg}
theorem GL (d:PyData):PySem.W.kitOne K (.type (tyN d)) (.type "str")=some (isS d):=by cases d <;> with_unfolding_all rfl
theorem Gh (d:PyData):PySem.W.kitOne K (.type (tyN d)) (.type "int")=some (isI d):=by cases d <;> with_unfolding_all rfl
theorem Fm (d:PyData):PySem.W.kitOne K (.type (tyN d)) (.type "bool")=some (isB d):=by cases d <;> with_unfolding_all rfl
theorem Cr (d:PyData):PySem.W.kitOne K (.type (tyN d)) (.type "tuple")=some (isT d):=by cases d <;> with_unfolding_all rfl
theorem BK (d:PyData):PySem.W.kitOne K (.type (tyN d)) (.type "list")=some (isL d):=by cases d <;> with_unfolding_all rfl
variable {p:Addr} {H:Hp} {d:PyData} {v:V} {Q:VK}
end
end L2
end
section
namespace L2
open PySem PySem.Spec PyProof.Rows
theorem rC {b:Bool} {A B:Prop} (e:b=true) (h:A):if b=true then A else B:=by rw [IX e];exact h
theorem mO {b:Bool} {A B:Prop} (e:b=false) (h:B):if b=true then A else B:=by rw [IV (by rw [e];exact Jf)];exact h
theorem jW {b:Bool} {A B:Prop} (h1:b=true->A) (h2:b=false->B):if b=true then A else B:=by
 cases b with
 | true=>rw [IX rfl];exact h1 rfl
 | false=>rw [IV Jf];exact h2 rfl
section
variable {r r':R2} {x y:V} {H:Hp} {Q:VK}
theorem Bz {K:Fg} {z:Str} (l:z.length<=sizeLine) (h:Q (.int z.length) H):C3 K [.str z] H Q:=⟨_,_,rfl,⟨l,rfl⟩,h⟩
theorem AS {K:Fg} {p:Addr} {xs:List V} (s:SqL K H p xs) (h:Q (.int xs.length) H):C3 K [.ref p] H Q:=⟨_,_,rfl,.inl ⟨xs,s,rfl⟩,h⟩
theorem AB {K:Fg} {p:Addr} {xs:List V} (s:SqT K H p xs) (h:Q (.int xs.length) H):C3 K [.ref p] H Q:=⟨_,_,rfl,.inr ⟨xs,s,rfl⟩,h⟩
theorem D8 {i:Int} (h:Q (.int (if i < 0 then -i else i)) H):Eh [.int i] H Q:=⟨i,rfl,h⟩
end
theorem Fun.okJ {P:Program} {w:World} {K:Fg} {mg:Str->Option Value} {base:Heap} {x qual:Str} {st:Stmt} {f:Addr} {fd:FuncData} {N ps:List Str} {k:Nat} {sp:Sp} (F:Fun K x qual st f fd) (S:aH N ps (aa st)) (len:∀ vs H Q E,sp vs H Q E->vs.length=ps.length)
  (hbody:∀ (cdv:Value) (A:Around) (outer:List Env) (s:Shared) (H:Hp) (vs:List V) (Q:VK) (E:XK),cp k (A.deeper (envOfC qual (aa st) s.heap.objs.size f cdv))->sp vs H Q E ->
   ∃ t,JSs (fm CX0 P w K mg base N qual (aa st) f cdv A outer s H E).nox (ae st) t/\t { nx:=fun _ H'=>Q .non H',rt:=Q } (start N vs) H):dU P w K mg base CX0 (k+1) f fd ps sp :=
 F.ok S len fun cdv A outer s H vs Q E hr h=>let ⟨t,j,q⟩:=hbody cdv A outer s H vs Q E hr h;⟨t,j.h,q⟩
end L2
end
section
namespace L2
open PySem PySem.Spec PyProof.Rows
section
variable {X:Cx}
def BX (K:Fg):List V->Hp->VK->Prop:=fun xs H Q=>∃ p ys,xs=[.ref p]/\(SqL K H p ys\/SqT K H p ys)/\∀ l,H l=none->Q (.ref l) (upd H l (.lst ys))
def xg (K:Fg):List V->Hp->VK->Prop:=fun xs H Q=>∃ p ys,xs=[.ref p]/\((SqL K H p ys/\∀ l,H l=none->Q (.ref l) (upd H l (.tup ys)))\/(SqT K H p ys/\Q (.ref p) H))
theorem qR:bM X (.type "list") (BX X.K):=mT
theorem oA:bM X (.type "tuple") (xg X.K):=lI
theorem HF {apos cpos:Pos} {o:Expr} {name:Str} {to:TE} {id T:String} {r:V->List V->Hp->VK->Prop} (ho:JE X o to) (hm:MtR X id r) (pa:PlainAttrs T) (slot:Slot T name id) (hty:typeOf (.builtin id)=pure (.type "method_descriptor"))
  (hbase:attributeBase o name X.env (eval o X.env)=eval o X.env) (hline:(apos.endLine==cpos.line)=true):JE X (.Call (.Attribute o name apos) [] [] cpos) (ET X.K T r to):=⟨Bk pa slot hty hm ho.h hbase hline⟩
end
end L2
end
section
namespace L2
open PySem PySem.Spec PyProof.Rows
section
variable {K:Fg} {js:List Nat} {tt:TT} {te:TE} {σ:St} {H:Hp} {Q:VK} {a:Addr} {xs:List V}
end
def uk (xs:List Str):St:=xs.map fun _=>none
def Bc (n:List Str) (js:List Nat) (wi:TI) (g:TG) (te:TE):TE:=fun σ H Q=>wi σ H fun J H1=>∃ W:Nat->Nat->St->List V->Hp->Prop,(∃ m,W 0 m (uk n++b8 js σ) [] H1)/\∀ i m σB acc H,W i m σB acc H ->
 (J.stop i H/\acc.length<=sizeLine/\∀ p,H p=none->Q (.ref p) (upd H p (.lst acc)))\/(J.go i H/\acc.length < sizeLine/\∀ x H',J.yld i H x H' ->
  g x σB H' fun σ2 H2=>te σ2 H2 fun y H3=>∃ m',m' < m/\W (i+1) m' σ2 (acc++[y]) H3)
section
variable {K:Fg} {n:List Str} {js:List Nat} {g:TG} {te:TE} {σ:St} {H:Hp} {Q:VK} {a:Addr} {xs:List V}
end
section
variable {K:Fg} {js:List Nat} {ti:TE} {tt:TT} {te:TE} {σ:St} {H:Hp} {Q:VK} {a:Addr} {xs:List V}
end
section
variable {K:Fg} {js:List Nat} {ti:TE} {tt:TT} {te:TE} {σ:St} {H:Hp} {Q:VK} {a:Addr} {xs:List V}
end
def lj (xs:List V) (lo hi st:Option Int):List V:=(sliceRange (sliceBounds lo hi st xs.length).1 (sliceBounds lo hi st xs.length).2.1 (sliceBounds lo hi st xs.length).2.2).filterMap (xs[·]?)
theorem ni {xs:List V} {us:List Value} (r:Vals xs us):∀ is:List Nat,Vals (is.filterMap (xs[·]?)) (is.filterMap (us[·]?))
 | []=>.nil
 | i :: is=>by
  have ih:=ni r is;cases e:xs[i]? with
  | none =>
   have hi:us[i]?=none:=by
    rw [List.getElem?_eq_none_iff] at e ⊢;rw [<- r.length];exact e
   rw [List.filterMap_cons_none e,List.filterMap_cons_none hi];exact ih
  | some x =>
   obtain ⟨u,hu,ru⟩:=r.get e;rw [List.filterMap_cons_some e,List.filterMap_cons_some hu];exact .cons ru ih
section
variable {X:Cx} {e st:Expr} {te:TE} {lo hi:Option Expr} {tl th ts:TO} {pos p2:Pos}
def EI (K:Fg) (te:TE) (tl th ts:TO):TE:=fun σ H Q=>te σ H fun x H1=>tl σ H1 fun l H2=>th σ H2 fun u H3=>ts σ H3 fun k H4=>∃ a xs,x=.ref a/\k≠some 0/\SqL K H4 a xs/\∀ p,H4 p=none->(lj xs l u k).length<=xs.length->Q (.ref p) (upd H4 p (.lst (lj xs l u k)))
theorem tm (he:PE X e te) (hl:PO X lo tl) (hu:PO X hi th) (hst:PO X (some st) ts):PE X (.Subscript e (.Slice lo hi (some st) p2) pos) (EI X.K te tl th ts):=by
 intro pins s σ H Q I h;refine Subscript_ (thn (he pins s σ H _ I h) fun v s1 ⟨x,H1,I1,r1,q1⟩=>?_);refine wpAny_Slice (thn (hl pins s1 σ H1 _ I1 q1) fun vl s2 ⟨l,H2,I2,pl,q2⟩=>thn (hu pins s2 σ H2 _ I2 q2) fun vu s3 ⟨u,H3,I3,pu,q3⟩=>thn (hst pins s3 σ H3 _ I3 q3) fun vk s4 ⟨k,H4,I4,pk,q4⟩=>?_);obtain ⟨a,xs,rfl,k0,hx,q⟩:=q4;cases r1;have I5:Inv X pins σ H4 { s4 with heap:=s4.heap.push { cls:=.type "slice", data:=.fields #[vl,vu,vk] } }:=I4.kept (t':=s4.toks) fun b ob q=>Ja _ q;obtain ⟨its,r,ht,hz⟩:=I5.list hx;have hlen:=r.length;show wpAny (model X.prog X.w) X.A (subscriptTail e (.Slice lo hi (some st) p2) (.ref a) (.ref s4.heap.objs.size)) (EP X pins σ Q) X.xe { s4 with heap:=s4.heap.push { cls:=.type "slice", data:=.fields #[vl,vu,vk] } };refine tail_any (ops:=[.ref a,.ref s4.heap.objs.size]) ht.isList.typeIs slot_list_getitem.lookup ?_ (by with_unfolding_all rfl);refine wpAny_getItem_list_slice ht.isList (Heap.IsSliceOf.new ..) pl pu pk k0 ?_ (by rw [IW] <;> omega);have hp:(slicePick its.toArray l u k).size<=its.toArray.size:=slicePick_size_le _ _ _ _;have es:slicePick its.toArray l u k=((sliceRange (sliceBounds l u k xs.length).1 (sliceBounds l u k xs.length).2.1 (sliceBounds l u k xs.length).2.2).filterMap (its[·]?)).toArray:=by
  unfold slicePick;rw [IW,<-hlen];congr 2;funext i;simp
 have rv:=ni r (sliceRange (sliceBounds l u k xs.length).1 (sliceBounds l u k xs.length).2.1 (sliceBounds l u k xs.length).2.2);have hpl:(lj xs l u k).length<=xs.length:=by
  have:=rv.length;rw [es,IW] at hp;unfold lj;rw [this];rw [IW] at hp;omega
 refine ⟨.ref _,_,I5.laid (t':=s4.toks) (o:=.lst (lj xs l u k)) (fun b ob q=>Ja _ q) (IY _) ?_,rfl,q _ (I5.hok.fresh (IY _)) hpl⟩;exact ⟨Ju hpl hz,_,0,rv,by rw [<- es];exact Jt _ rfl⟩
end
theorem Io {X:Cx} {e st:Expr} {te:TE} {lo hi:Option Expr} {tl th ts:TO} {pos p2:Pos} (he:JE X e te) (hl:JO X lo tl) (hu:JO X hi th) (hst:JO X (some st) ts):JE X (.Subscript e (.Slice lo hi (some st) p2) pos) (EI X.K te tl th ts):=⟨tm he.h hl.h hu.h hst.h⟩
section
variable {X:Cx}
end
def Ib (K:Fg) (te:TE):TT:=fun σ H Q=>te σ H fun x H'=>∃ k,E4 K x H' k/\Q k H'
end L2
end
section
namespace L2
open PySem PySem.Spec PyProof.Rows
section
variable {X:Cx} {a b:Expr} {ta tb:TE} {pos:Pos}
end
section
variable {ty td:TE} {σ:St} {H:Hp} {Q:VK}
end
section
variable {X:Cx} {es:List Expr} {t:TGs} {pos:Pos} {x:Str} {i:Nat}
end
section
variable {K:Fg} {σ:St} {H:Hp} {Q:St->Hp->Prop} {v x:V} {xs:List V} {t:TG} {u:TGs} {n:Nat} {a:Addr}
end
end L2
end
section
namespace L2
open PySem PySem.Spec PyProof.Rows
section
variable {X:Cx}
def tFs:List TE->Str->TE
 | [],out=>fun _ H Q=>out.length<=sizeLine/\Q (.str out) H
 | t :: ts,out=>fun σ H Q=>t σ H fun x H1=>∃ y,x=.str y/\(out++y).length<=sizeLine/\tFs ts (out++y) σ H1 Q
def PFs (X:Cx) (vs:List Expr) (ts:List TE):Prop :=
 ∀ (pins:List (Addr×Obj)) (s:Shared) (σ:St) (H:Hp) (Q:VK) (out:Str),Inv X pins σ H s->tFs ts out σ H Q->wpAny (model X.prog X.w) X.A (joinParts out (evalEach vs X.env)) (EP X pins σ Q) X.xe s
theorem zJ:PFs X [] []:=by
 intro pins s σ H Q out I h;exact joinParts_nil ⟨.str out,H,I.tok _,⟨_,rfl⟩,h.2⟩ h.1
theorem wk {v:Expr} {vs:List Expr} {t:TE} {ts:List TE} (hv:PE X v t) (hr:PFs X vs ts):PFs X (v :: vs) (t :: ts):=by
 intro pins s σ H Q out I h;show wpAny _ _ (joinParts out (eval v X.env :: evalEach vs X.env)) _ _ s;refine joinParts_cons (thn (hv pins s σ H _ I h) fun u s1 ⟨x,H1,I1,r1,y,ex,hz,q⟩=>?_);subst ex;obtain ⟨t',rfl⟩:=r1;exact ⟨hz,hr pins s1 σ H1 Q _ I1 q⟩
end
structure JF (X:Cx) (vs:List Expr) (ts:List TE):Prop where
 h:PFs X vs ts
section
variable {X:Cx}
theorem eF0:JF X [] []:=⟨zJ⟩
theorem eFc {v:Expr} {vs:List Expr} {t:TE} {ts:List TE} (hv:JE X v t) (hr:JF X vs ts):JF X (v :: vs) (t :: ts):=⟨wk hv.h hr.h⟩
end
section
variable {te:TE} {ts:List TE} {t:TE} {σ:St} {H:Hp} {Q:VK} {out:Str}
end
section
variable {X:Cx} {o e:Expr} {apos cpos:Pos} {te:TE} {a:Addr} {f:Str->Option V}
end
section
variable {js:List Nat} {ta:TA} {tt:TT} {te:TE} {σ:St} {H:Hp} {Q:VK}
end
section
variable {K:Fg} {js:List Nat} {ti:TE} {tt:TT} {te:TE} {σ:St} {H:Hp} {Q:VK} {a:Addr} {xs:List V}
end
end L2
end
section
namespace L2
open PySem PySem.Spec PyProof.Rows
section
variable {X:Cx}
def CH (K:Fg):R2:=fun x y H Q=>∃ l b xs zs,x=.ref l/\y=.ref b/\SqL K H l xs/\SqL K H b zs/\xs.length+zs.length<=sizeLine/\∀ p,H p=none->Q (.ref p) (upd H p (.lst (xs++zs)))
theorem yJ:OpR X (binaryOp .Add) (CH X.K):=by
 intro pins s σ H x y v u Q I rx ry h;obtain ⟨l,b,xs,zs,rfl,rfl,hH,hB,hz,q⟩:=h;cases rx;cases ry;obtain ⟨its,r,p,_⟩:=I.list hH;obtain ⟨its2,r2,p2,_⟩:=I.list hB;obtain ⟨⟨cls,dd,data,sl⟩,n,ho,hc,hd0,hd⟩:=p;obtain ⟨⟨cls2,dd2,data2,sl2⟩,n2,ho2,hc2,hd02,hd2⟩:=p2;simp only at hc hd hc2 hd2;subst hc hd hc2 hd2;have e:its.toArray++its2.toArray=(its++its2).toArray:=by simp
 refine concat_meets ⟨_,ho,rfl⟩ ⟨_,ho2,rfl⟩ noFill_list_add seq_list_add PySem.F.slot_list_add PySem.F.entry_list_add (PySem.F.args_list_add_2 _ _) (list_addW l b its.toArray its2.toArray n n2 dd dd2 sl sl2 (by rw [IW,IW,<-r.length,<-r2.length];exact hz)) ⟨ho,ho2,?_⟩;rw [e];exact ⟨.ref _,_,I.Ig (t':=s.toks) (r.append r2) (by rw [IJ];omega),rfl,q _ I.fresh⟩
end
end L2
end
section
namespace L2
open PySem PySem.Spec PyProof.Rows
mutual
def hkB:PyData->Bool
 | .int _=>true
 | .str _=>true
 | .tuple ds=>vm ds
 | _=>false
def vm:List PyData->Bool
 | []=>true
 | d :: ds=>hkB d&&vm ds
end
theorem kO:∀ {ds:List PyData},vm ds=true↔∀ d∈ds,hkB d=true
 | []=>by simp [vm]
 | d :: ds=>by simp [vm,kO (ds:=ds)]
def kyB (d:PyData):Bool:=hkB d&&d.canLay0&&decide (d.depth<=6)
def hk6 (d:PyData):Bool:=hkB d&&decide (d.depth<=6)
mutual
theorem iy:∀ (d e:PyData),hkB d=true->hkB e=true->(PyData.eqv d e=true↔d=e)
 | .int i,e,_,h=>by
  cases e with
  | int j=>simp [PyData.eqv]
  | str y=>simp [PyData.eqv]
  | tuple es=>simp [PyData.eqv]
  | _=>cases h
 | .str x,e,_,h=>by
  cases e with
  | int j=>simp [PyData.eqv]
  | str y=>simp [PyData.eqv]
  | tuple es=>simp [PyData.eqv]
  | _=>cases h
 | .tuple ds,e,h1,h=>by
  cases e with
  | int j=>simp [PyData.eqv]
  | str y=>simp [PyData.eqv]
  | tuple es=>simp only [PyData.eqv,PyData.tuple.injEq];exact uB ds es h1 h
  | _=>cases h
 | .none,_,h,_=>by cases h
 | .bool _,_,h,_=>by cases h
 | .list _,_,h,_=>by cases h
 | .dict _,_,h,_=>by cases h
theorem uB:∀ (ds es:List PyData),vm ds=true->vm es=true->(PyData.eqvAll ds es=true↔ds=es)
 | [],[],_,_=>by simp [PyData.eqvAll]
 | [],_ :: _,_,_=>by simp [PyData.eqvAll]
 | _ :: _,[],_,_=>by simp [PyData.eqvAll]
 | d :: ds,e :: es,h1,h2=>by
  simp only [vm,JL] at h1 h2;rw [PyData.eqvAll,JL,iy d e h1.1 h2.1,uB ds es h1.2 h2.2,List.cons.injEq]
end
theorem nv {d:PyData} {ds:List PyData} (h:d∈ds):d.depth+1<=(PyData.tuple ds).depth:=by
 have:∀ {ds:List PyData},d∈ds->d.depth<=PyData.depthAll ds:=by
  intro ds;induction ds with
  | nil=>intro h;cases h
  | cons x xs ih =>
   intro h;rw [PyData.depthAll];rcases Jo.mp h with rfl | h
   ·exact Nat.le_max_left _ _
   ·exact Ju (ih h) (Nat.le_max_right _ _)
 rw [PyData.depth];have:=this h;omega
theorem iR {h:Heap}:∀ {vs:List Value} {ds:List PyData} {as:List Addr},ReadsAll h vs ds as->vs.length=ds.length/\∀ (i:Nat) (v:Value),vs[i]?=some v->∃ d bs,ds[i]?=some d/\Reads h v d bs
 | _,_,_,.nil=>⟨rfl,fun i v e=>by simp at e⟩
 | _,_,_,.cons r t=>by
  obtain ⟨l,f⟩:=iR t;refine ⟨by simp [l],fun i v e=>?_⟩;cases i with
  | zero=>simp at e;subst e;exact ⟨_,_,rfl,r⟩
  | succ i=>simpa using f i v (by simpa using e)
section
variable {P:Program} {w:World} {A:Around} {E:Value->Shared->Prop} {s:Shared}
theorem rN:∀ (n:Nat) {d:PyData} {v:Value} {as:List Addr} {Q:Bool->Shared->Prop},Reads s.heap v d as->hkB d=true->d.depth<=n->Q true s->wpAny (model P w) A (eqIsQuiet n v) Q E s:=by
 intro n;induction n with
 | zero =>
  intro d v as Q r h hd q;cases r with
  | int i t=>rw [eqIsQuiet_byValue _ rfl];exact IQ q
  | str x t=>rw [eqIsQuiet_byValue _ rfl];exact IQ q
  | tuple _ _ _ _=>rw [PyData.depth] at hd;omega
  | _=>cases h
 | succ n ih =>
  intro d v as Q r h hd q;cases r with
  | int i t=>rw [eqIsQuiet_byValue _ rfl];exact IQ q
  | str x t=>rw [eqIsQuiet_byValue _ rfl];exact IQ q
  | @tuple a o vs k xs as ho hc hdt ra =>
   have hT:s.TypeIs (.ref a) "tuple" := ⟨o,ho,hc⟩;unfold eqIsQuiet;refine IH (Lm hT F.slot_tuple_eq.lookup ?_);show wpAny _ _ (isInstance (.ref a) (.type "tuple")>>=_) _ _ s;refine IH (wpAny_isInstance hT isSubtype_tuple_tuple ?_);simp only [Bool.not_true,KP,KG];refine IH (wpAny_seqItems ho hdt (IH ?_));show wpAny _ _ (forIn vs _ _) _ _ s;rw [<- Array.forIn_toList];have hx:=kO.mp h;refine KY _ (fun rest r s'=>r.1=none/\s'=s/\∀ u∈rest,u∈vs.toList) _ ?_ ?_ _ _ ⟨rfl,rfl,fun _ z=>z⟩
   ·rintro u rest r s' ⟨hr,rfl,hall⟩;obtain ⟨i,hi⟩:=Kt.mp (hall u IU);obtain ⟨d',bs,e1,r1⟩:=(iR ra).2 i u hi;have hm:=Jn e1;refine IH (ih r1 (hx d' hm) (by have:=nv hm;omega) ?_);simp only [Bool.not_true,KP,KG];exact IQ ⟨rfl,rfl,fun y hy=>hall y (Jb _ hy)⟩
   ·rintro ⟨r1,r2⟩ s' ⟨hr,rfl,_⟩;simp only at hr;subst hr;exact IQ q
  | _=>cases h
theorem xS:∀ (n:Nat) {A:Around} {s:Shared} {E:Value->Shared->Prop} {d:PyData} {v:Value} {as:List Addr} {Q:Int->Shared->Prop},Reads s.heap v d as->hkB d=true->d.depth<=n->A.units+n < cLine ->
  (∀ t,Q (cJ w d) { s with toks:=t })->wpAny (model P w) A (pyHash v) Q E s:=by
 intro n;induction n with
 | zero =>
  intro A s E d v as Q r h hd hu q;cases r with
  | int i t=>exact wpAny_pyHash_int (q _)
  | str x t=>exact wpAny_pyHash_str (q _)
  | tuple _ _ _ _=>rw [PyData.depth] at hd;omega
  | _=>cases h
 | succ n ih =>
  intro A s E d v as Q r h hd hu q;cases r with
  | int i t=>exact wpAny_pyHash_int (q _)
  | str x t=>exact wpAny_pyHash_str (q _)
  | @tuple a o vs k xs as ho hc hdt ra =>
   have hT:s.TypeIs (.ref a) "tuple" := ⟨o,ho,hc⟩;have hx:=kO.mp h;unfold pyHash;first | unfold pyHashByItsType | skip
   first | refine IH (wpAny_cRoomFor_or (.inr (by omega)) ?_) | skip
   refine IH (Lm hT F.slot_tuple_hash.lookup ?_);show wpAny _ _ (if (some (Value.builtin "tuple.__hash__")==some Value.none)=true then _ else _) Q E s;rw [IV (by rw [beq_builtin_none];exact Jf)];refine IH (Lm hT F.slot_tuple_hash.lookup ?_);show wpAny _ _ (callSpecialIfBoundUnlessNone? (.ref a) "__hash__" _>>=_) Q E s;refine IH (wpAny_callSpecialIfBoundUnlessNone?_slot hT F.slot_tuple_hash (Kp F.slot_tuple_hash hT F.entry_tuple_hash ?_ (F.args_tuple_hash_1 _)));show wpAny _ _ (Builtin.Tuple.tupleItemsOf (.ref a)>>=_) _ _ s;refine IH (wpAny_tupleItemsOf ho hdt (IH ?_));rw [<- Array.forIn_toList];have hap:∀ (l m:List PyData),df w (l++m)=df w l++df w m:=by
    intro l m;induction l with
    | nil=>rfl
    | cons x l ihl=>rw [Lh,df,df,ihl];rfl
   refine KY _ (fun rest (b:Array Int) s'=>∃ i,rest=vs.toList.drop i/\b.toList=df w (xs.take i)/\∃ t,s'={ s with toks:=t }) _ ?_ ?_ _ _ ⟨0,rfl,rfl,_,rfl⟩
   ·rintro u rest b s' ⟨i,hr,hb,t,rfl⟩;have hi:vs.toList[i]?=some u:=by
     have:(vs.toList.drop i)[0]?=some u:=by rw [<- hr];rfl
     simpa using this
    obtain ⟨d',bs,e1,r1⟩:=(iR ra).2 i u hi;have hm:=Jn e1;refine IH (ih (s:={ s with toks:=t }) r1 (hx d' hm) (by have:=nv hm;omega) (by have:A.in1.units=A.units+1:=rfl;omega) fun t'=>?_);have nx:rest=vs.toList.drop (i+1)/\(b.push (cJ w d')).toList=df w (xs.take (i+1))/\∃ t'',({ s with toks:=t' }:Shared)={ s with toks:=t'' }:=by
     refine ⟨?_,?_,_,rfl⟩
     ·have:=congrArg List.tail hr;simpa [List.tail_drop] using this
     ·rw [List.take_add_one,e1,hap,Array.toList_push,hb];rfl
    first
     | exact IQ ⟨i+1,nx⟩
     | exact IH (IQ (IQ ⟨i+1,nx⟩))
   ·rintro b s' ⟨i,hr,hb,t,rfl⟩;have hi:vs.toList.length<=i:=by
     have:=congrArg List.length hr;simp at this;simpa using (by omega:vs.size<=i)
    rw [Kh (by rw [<- (iR ra).1];exact hi)] at hb;show wpAny _ _ (retInt (Builtin.Tuple.tupleHashOf b.toList)) _ _ _;rw [hb];refine wpAny_ret_mkInt ?_;have q':=q;rw [cJ] at q';unfold reduceHash at q';show wpAny _ _ (if (decide (-(2:Int) ^ 63<=Builtin.Tuple.tupleHashOf (df w xs))&&decide (Builtin.Tuple.tupleHashOf (df w xs) < 2 ^ 63))=true then _ else _) Q E _;by_cases hc:(decide (-(2:Int) ^ 63<=Builtin.Tuple.tupleHashOf (df w xs))&&decide (Builtin.Tuple.tupleHashOf (df w xs) < 2 ^ 63))=true
    ·rw [IX hc];rw [IX hc] at q';exact IQ (q' _)
    ·rw [IV hc];rw [IV hc] at q';exact IH (Kd (IQ (q' _)))
  | _=>cases h
end
end L2
end
section
namespace L2
open PySem PySem.Spec PyProof.Rows
theorem aX {d:PyData}:kyB d=true↔hkB d=true/\d.canLay0=true/\d.depth<=6:=by simp [kyB,and_assoc]
section
variable {P:Program} {w:World} {A:Around} {E:Value->Shared->Prop} {s:Shared}
structure Ai (w:World) (h:Heap) (es:Array DictEntry) (ks:List PyData):Prop where
 len:es.size=ks.length
 nd:ks.Nodup
 at_:∀ (j:Nat) (k:PyData),ks[j]?=some k->kyB k=true/\∃ e bs,es[j]?=some e/\e.hash=cJ w k/\Reads h e.key k bs
theorem Ai.at' {h:Heap} {es:Array DictEntry} {ks:List PyData} (N:Ai w h es ks) {j:Nat} {e:DictEntry} (he:es[j]?=some e):∃ k bs,ks[j]?=some k/\kyB k=true/\e.hash=cJ w k/\Reads h e.key k bs:=by
 have hj:j < ks.length:=by rw [<- N.len];exact (Array.getElem?_eq_some_iff.mp he).1
 obtain ⟨a,e',bs,b,c,r⟩:=N.at_ j _ (II hj);rw [he] at b;cases b;exact ⟨_,bs,II hj,a,c,r⟩
theorem Ai.one {h:Heap} {es:Array DictEntry} {ks:List PyData} (N:Ai w h es ks) {i j:Nat} {k:PyData} (hi:ks[i]?=some k) (hj:ks[j]?=some k):i=j :=
 (List.getElem?_inj (IL.mp hi).1 N.nd).mp (hi.trans hj.symm)
theorem zd {key key':Value} {k k':PyData} {as bs:List Addr} (hu:A.units+6 < cLine) (r:Reads s.heap key k as) (r':Reads s.heap key' k' bs) (h:kyB k=true) (h':kyB k'=true):SeqAt.EqAt A s key' key (PyData.eqv k' k):=by
 rw [aX] at h h';exact SeqAt.eqAt_reads k' k A s key' key bs as r' r h'.2.1 h.2.1 (by have:=Nat.min_le_right k'.depth k.depth;omega)
theorem CU {key:Value} {k:PyData} {as:List Addr} {st:List Value} {Q:Bool->Shared->Prop} (r:Reads s.heap key k as) (h:kyB k=true) (hst:∀ v∈st,∃ k' bs,Reads s.heap v k' bs/\kyB k'=true) (q:Q false s) :
  wpAny (model P w) A (tableMayTell key st) Q E s:=by
 rw [aX] at h;unfold tableMayTell;split
 ·exact IQ q
 ·refine IH (rN 8 r h.1 (by omega) ?_);rw [IV (by simp)];refine IH (KY _ (fun rest b s'=>s'=s/\b=(none,())/\∀ v∈rest,v∈st) _ ?_ ?_ _ _ ⟨rfl,rfl,fun _ z=>z⟩)
  ·rintro v rest b s' ⟨rfl,rfl,hr⟩;obtain ⟨k',bs,r',h'⟩:=hst v (hr v IU);rw [aX] at h';refine IH (rN 8 r' h'.1 (by omega) ?_);rw [IV (by simp)];exact IQ ⟨rfl,rfl,fun v hv=>hr v (Jb _ hv)⟩
  ·rintro b s' ⟨rfl,rfl,_⟩;exact IQ q
theorem tX {h:Heap} {v:Value} {x:Str} {as:List Addr} (r:Reads h v (.str x) as):∃ t,v=.str x t:=by cases r;exact ⟨_,rfl⟩
theorem oX {h:Heap} {v:Value} {x:Str} {k:PyData} {as:List Addr} (r:Reads h v k as) (hk:hkB k=true) (hp:v.isStr x=true):k=.str x:=by
 cases r with
 | str y t=>simp [Value.isStr] at hp;simp [hp]
 | int i t=>simp [Value.isStr] at hp
 | tuple _ _ _ _=>simp [Value.isStr] at hp
 | _=>cases hk
theorem uo {α:Type} {c:Prop} [Decidable c] {x y:Sem α} {Q:α->Shared->Prop} (hx:wpAny (model P w) A x Q E s) (hy:wpAny (model P w) A y Q E s):wpAny (model P w) A (if c then x else y) Q E s:=by
 split
 ·exact hx
 ·exact hy
theorem Av {α:Type} {c:Prop} [Decidable c] {m:Sem Bool} {f:Bool->Sem α} {Q:α->Shared->Prop} (hm:∀ Q':Bool->Shared->Prop,Q' false s->wpAny (model P w) A m Q' E s) (h:wpAny (model P w) A (f false) Q E s) :
  wpAny (model P w) A (if c then (pure false:Sem Bool)>>=f else m>>=f) Q E s:=uo (IH (IQ h)) (IH (hm _ h))
theorem xw {d:Addr} {o:Obj} {es:Array DictEntry} {ep:Nat} {ks:List PyData} {k:PyData} {key:Value} {as:List Addr} {Q:Option Nat->Shared->Prop}
  (hu:A.units+6 < cLine) (hk:Reads s.heap key k as) (hky:kyB k=true) (ho:s.heap.get? d=some o) (hd:o.data=.dict es ep) (N:Ai w s.heap es ks)
  (hnone:(∀ j:Nat,ks[j]?≠some k)->Q none s) (hsome:∀ j:Nat,ks[j]?=some k->Q (some j) s):wpAny (model P w) A (dictFind d key (cJ w k)) Q E s:=by
 have hk3:=aX.mp hky;have hsz:=N.len;have hash_at:∀ j:Nat,ks[j]?=some k->((es[j]?.map (·.hash))==some (cJ w k))=true:=fun j hj=>by
  obtain ⟨_,e,bs,he,hh,_⟩:=N.at_ j k hj;rw [he];simp [hh]
 have same:∀ {k'},kyB k'=true->(PyData.eqv k' k=true↔k'=k):=fun h'=>iy _ _ (aX.mp h').1 hk3.1;have done:∀ i:Nat,i<=es.size->(∀ j:Nat,j < i->ks[j]?≠some k)->[]=(List.range' i (es.size - i)).filter (fun i=>(es[i]?.map (·.hash))==some (cJ w k))->∀ j:Nat,ks[j]?≠some k:=by
  intro i hi hno hr j hj;rcases Nat.lt_or_ge j i with h | h
  ·exact hno j h hj
  ·have hjl:j < es.size:=by rw [hsz];exact (IL.mp hj).1
   have:=List.filter_eq_nil_iff.mp hr.symm j (List.mem_range'_1.mpr ⟨h,by omega⟩);exact this (hash_at j hj)
 have skip:∀ {i x:Nat},(∀ j:Nat,j < i->ks[j]?≠some k)->(∀ j:Nat,i<=j->j < x->((es[j]?.map (·.hash))==some (cJ w k))=false)->∀ j:Nat,j < x->ks[j]?≠some k:=by
  intro i x hno hs j hjx hj;rcases Nat.lt_or_ge j i with h | h
  ·exact hno j h hj
  ·have:=hs j h hjx;rw [hash_at j hj] at this;cases this
 have step:∀ {x:Nat} {k':PyData},ks[x]?=some k'->k'≠k->(∀ j:Nat,j < x->ks[j]?≠some k)->∀ j:Nat,j < x+1->ks[j]?≠some k:=by
  intro x k' hx hne hno j hj hjk;rcases Nat.lt_or_ge j x with h | h
  ·exact hno j h hjk
  ·have:j=x:=by omega
   subst this;rw [hx] at hjk;cases hjk;exact hne rfl
 have plain:wpAny (model P w) A (dictWalkPlain d key (cJ w k) es (placesWithHash es.size (fun i=>es[i]?.map (·.hash)) (cJ w k))) Q E s:=by
  unfold dictWalkPlain
  refine IH (KY _ (fun rest b s'=>s'=s/\b=(none,())/\∃ i:Nat,rest=(List.range' i (es.size - i)).filter (fun i=>(es[i]?.map (·.hash))==some (cJ w k))/\i<=es.size/\∀ j:Nat,j < i->ks[j]?≠some k) _ ?_ ?_ _ _
   ⟨rfl,rfl,0,by rw [placesWithHash,List.range_eq_range',Nat.sub_zero],JZ _,fun _ h=>absurd h (Nat.not_lt_zero _)⟩)
  ·rintro x rest b s' ⟨rfl,rfl,i,hr,hi,hno⟩;obtain ⟨hix,hxn,hpx,hskip,hrest⟩:=filter_range'_cons _ _ _ _ _ hr.symm;have hlt:x < es.size:=by omega
   have hex:es[x]?=some es[x]:=JU hlt;obtain ⟨k',bs,hkx,hk',hh,hr'⟩:=N.at' hex;have hno':=skip hno hskip;have hrest':rest=(List.range' (x+1) (es.size - (x+1))).filter (fun i=>(es[i]?.map (·.hash))==some (cJ w k)):=by rw [hrest];congr 2;omega
   rw [hex] at hpx ⊢;have hhx:(es[x].hash==cJ w k)=true:=by simpa using hpx
   dsimp only;rw [IX hhx];refine IH (Km ho hd (IH (zd hu hk hr' hky hk' _ _ _ _ (IH (Km ho hd ?_)))));rw [IV (by simp)];by_cases z:k'=k
   ·subst z;rw [(same hky).mpr rfl];first | rw [IX rfl] | skip
    exact IH (Kd (IQ (IQ (hsome x hkx))))
   ·have:PyData.eqv k' k=false:=by
     cases q:PyData.eqv k' k with
     | false=>rfl
     | true=>exact absurd ((same hk').mp q) z
    rw [this];rw [IV (by simp)];exact IH (Kd (IQ ⟨rfl,rfl,x+1,hrest',hlt,step hkx z hno'⟩))
  ·rintro b s' ⟨rfl,rfl,i,hr,hi,hno⟩;exact IQ (hnone (done i hi hno hr))
 have hst:∀ v∈(placesWithHash es.size (fun i=>es[i]?.map (·.hash)) (cJ w k)).filterMap (fun i=>es[i]?.map (·.key)),∃ k' bs,Reads s.heap v k' bs/\kyB k'=true:=by
  intro v hv;obtain ⟨i,_,hi⟩:=List.mem_filterMap.mp hv;obtain ⟨e,he,rfl⟩:=Jp.mp hi;obtain ⟨k',bs,_,h1,_,h2⟩:=N.at' he;exact ⟨k',bs,h2,h1⟩
 unfold dictFind;try with_reducible refine Ka ?_
 refine IH (KQ ho hd ?_);have shape:(∃ i t,key=.int i t)\/(∃ x t,key=.str x t/\k=.str x)\/∃ a,key=.ref a:=by
  cases hk with
  | int i t=>exact .inl ⟨i,t,rfl⟩
  | str x t=>exact .inr (.inl ⟨x,t,rfl,rfl⟩)
  | tuple _ _ _ _=>exact .inr (.inr ⟨_,rfl⟩)
  | _=>cases hk3.1
 rcases shape with ⟨i,t,rfl⟩ | ⟨x,t,rfl,ek⟩ | ⟨a,rfl⟩;refine uo plain ?_
 rotate_left
 refine uo ?_ (uo plain ?_)
 ·subst ek;unfold foundByValue;cases hf:es.findIdx? (·.key.isStr x) with
  | none =>
   refine IQ (hnone fun j hj=>?_);obtain ⟨_,e,bs,he,_,r⟩:=N.at_ j _ hj;have:=Array.findIdx?_eq_none_iff.mp hf e (Array.mem_of_getElem? he);obtain ⟨t',e'⟩:=tX r;rw [e'] at this;simp [Value.isStr] at this
  | some i =>
   have hi:=(Array.findIdx?_eq_some_iff_getElem.mp hf);obtain ⟨hlt,hp,_⟩:=hi;have hex:es[i]?=some es[i]:=JU hlt;obtain ⟨k',bs,hkx,hk',hh,hr'⟩:=N.at' hex;have e1:k'=.str x:=oX hr' (aX.mp hk').1 hp;subst e1;dsimp only;rw [hex];dsimp only;refine IH (Km ho hd (IH (zd hu hk hr' hky hk' _ _ _ _ (IH (Km ho hd ?_)))));rw [IV (by simp),(same hky).mpr rfl];first | rw [IX rfl] | skip
   exact IH (Kd (IQ (hsome i hkx)))
 rotate_left
 refine uo plain ?_;have hany:¬(es.any fun e=>e.key==Value.ref a&&e.hash != cJ w k)=true:=by
  rw [<- Array.any_toList,Li];rintro ⟨e,hin,hc⟩;obtain ⟨j,hj⟩:=Kt.mp hin;obtain ⟨k',bs,_,_,h3,h4⟩:=N.at' (j:=j) (e:=e) (by simpa using hj);simp only [JL,JD,bne_iff_ne,ne_eq] at hc;rw [hc.1] at h4;exact hc.2 (by rw [h3,(PySem.Reads.unique h4 _ _ hk).1])
 dsimp only;rw [IV hany]
 all_goals
  refine Av (fun Q' q=>CU hk hky hst q) ?_;try dsimp only
  rw [IV (by simp)]
  refine IH (KY _ (fun rest b s'=>s'=s/\∃ (i:Nat) (hit:Option Nat),b=(none,hit)/\rest=(List.range' i (es.size - i)).filter (fun i=>(es[i]?.map (·.hash))==some (cJ w k))/\i<=es.size /\
    ((hit=none/\∀ j:Nat,j < i->ks[j]?≠some k)\/∃ j,hit=some j/\j < i/\ks[j]?=some k)) _ ?_ ?_ _ _
   ⟨rfl,0,none,rfl,by rw [placesWithHash,List.range_eq_range',Nat.sub_zero],JZ _,.inl ⟨rfl,fun _ h=>absurd h (Nat.not_lt_zero _)⟩⟩)
  ·rintro x rest b s' ⟨rfl,i,hit,rfl,hr,hi,hH⟩;obtain ⟨hix,hxn,hpx,hskip,hrest⟩:=filter_range'_cons _ _ _ _ _ hr.symm;have hlt:x < es.size:=by omega
   have hex:es[x]?=some es[x]:=JU hlt;obtain ⟨k',bs,hkx,hk',hh,hr'⟩:=N.at' hex;have hrest':rest=(List.range' (x+1) (es.size - (x+1))).filter (fun i=>(es[i]?.map (·.hash))==some (cJ w k)):=by rw [hrest];congr 2;omega
   rw [hex] at hpx ⊢;have hhx:=(show (es[x].hash==cJ w k)=true by simpa using hpx);dsimp only;rw [IX hhx];refine IH (Km ho hd (IH (zd hu hk hr' hky hk' _ _ _ _ (IH (Km ho hd ?_)))));rw [IV (by simp)];cases q:PyData.eqv k' k with
   | true =>
    have z:=(same hk').mp q;rw [z] at hkx;first | rw [IX rfl] | skip
    have h0:hit=none:=by
     rcases hH with ⟨h0,_⟩ | ⟨j,_,hj,hjk⟩
     ·exact h0
     ·exact absurd (N.one hjk hkx) (by omega)
    subst h0;simp only [Option.isSome_none,KP,KG];first | refine IH (IQ ?_) | skip
    refine IH (Kd ?_);split
    ·exact IQ (IQ (hsome x hkx))
    ·exact IQ ⟨rfl,x+1,some x,rfl,hrest',hlt,.inr ⟨x,rfl,Kx x,hkx⟩⟩
   | false =>
    rw [IV (by simp)];have z:k'≠k:=fun e=>by rw [(same hk').mpr e] at q;cases q
    have st:(hit=none/\∀ j:Nat,j < x+1->ks[j]?≠some k)\/∃ j,hit=some j/\j < x+1/\ks[j]?=some k:=by
     rcases hH with ⟨h0,hno⟩ | ⟨j,h0,hj,hjk⟩
     ·exact .inl ⟨h0,step hkx z (skip hno hskip)⟩
     ·exact .inr ⟨j,h0,by omega,hjk⟩
    refine IH (Kd ?_);first | rw [IV (by simp)] | skip
    first
     | exact IQ ⟨rfl,x+1,hit,rfl,hrest',hlt,st⟩
     | exact IH (IQ (IQ ⟨rfl,x+1,hit,rfl,hrest',hlt,st⟩))
  ·rintro b s' ⟨rfl,i,hit,rfl,hr,hi,hH⟩;rcases hH with ⟨rfl,hno⟩ | ⟨j,rfl,_,hj⟩
   ·exact IQ (hnone (done i hi hno hr))
   ·exact IQ (hsome j hj)
end
end L2
end
section
namespace L2
open PySem PySem.Spec PyProof.Rows
def kD:Key->PyData | .inl i=>.int i | .inr x=>.str x
def cvK (kv:Key×V):PyData×V×V:=(kD kv.1,kV kv.1,kv.2)
theorem CA {a b:Key} (h:kD a=kD b):a=b:=by
 cases a <;> cases b <;> simp [kD] at h <;> simp [h]
theorem y4 (w:World) (k:Key):cJ w (kD k)=Ha w k:=by cases k <;> rfl
theorem o9 {P:Program} {w:World} {H:Hp} (h:Heap) (hb:sysModules < h.objs.size):b6 P w H (h.push { cls:=.type "dict", data:=.dict #[] }) h.objs.size (.dD 0 []) :=
 ⟨JZ _,beq_eq_false_iff_ne.mpr (Ne.symm (JJ hb)),List.nodup_nil,_,#[],Jt _ rfl,⟨rfl,rfl,rfl⟩,rfl,.nil⟩
theorem mL {P:Program} {w:World}:∀ {kvs:List (Key×V)} {vs:List (Key×Value)} {es:List DictEntry},KV kvs vs->Pairs (bS P w) es vs->(∀ e∈es,∃ k,(bS P w).is k e.key=true/\e.hash=(bS P w).hash k)->Paired (yB w) (kvs.map cvK) es
 | [],_,_,r,q,_=>by cases r;cases q;exact .nil
 | p :: kvs,_,es,r,q,h=>by
  cases r with
  | cons r t =>
   cases q with
   | @cons e kv es' kvs' h1 h2 h3 =>
    obtain ⟨k,hk,hh⟩:=h e IU;have e1:k=p.1:=by rw [r.1];exact (bS P w).inj _ _ _ hk h1
    subst e1;refine .cons ⟨?_,?_,?_⟩ (mL t h3 fun e he=>h e (Jb _ he))
    ·rw [hh];exact (y4 w _).symm
    ·show RelV (kV p.1) e.key;rcases ba (show n8 p.1 e.key=true from hk) with ⟨i,t,e1,e2⟩ | ⟨x,t,e1,e2⟩
     ·rw [e1,e2];exact ⟨t,rfl⟩
     ·rw [e1,e2];exact ⟨t,rfl⟩
    ·show RelV p.2 e.val;rw [h2];exact r.2
theorem FA {P:Program} {w:World} {H:Hp} {h:Heap} {a:Addr} {kvs:List (Key×V)} {vs:List (Key×Value)} (z:kvs.length<=sizeLine) (hd:(a==sysModules)=false) (rel:KV kvs vs) (dd:h.DictOf (bS P w) a vs) :
  ∃ ep,b6 P w H h a (.dD ep (kvs.map cvK)):=by
 obtain ⟨o,es,ep,h1,h2,h3,h4,h5,h6⟩:=dd;refine ⟨ep,by rw [IK];exact z,hd,?_,o,es,h1,h2,h3,mL rel h5 fun e he=>h4 e (Array.mem_toList_iff.mp he)⟩;have e1:vs.map (·.1)=kvs.map (·.1):=by
  clear h5 h6 z;unfold KV at rel;induction rel with
  | nil=>rfl
  | cons r t ih=>rw [JK,JK,ih,r.1]
 rw [e1] at h6;rw [KA];have:(kvs.map ((fun x:PyData×V×V=>x.1)∘cvK))=(kvs.map (·.1)).map kD:=by rw [KA];rfl
 rw [this];exact List.Pairwise.map kD (fun _ _ n z=>n (CA z)) h6
def pj:TE:=fun _ H Q=>∀ p,H p=none->Q (.ref p) (upd H p (.dD 0 []))
def pE (trs:List (TE×TE)):TE:=fun σ H Q=>∀ p,H p=none->p5 trs σ (upd H p (.dD 0 [])) fun ps H2=>H2 p=some (.dD 0 [])/\∃ kvs:List (Key×V),ps=kvs.map (fun kv=>(kV kv.1,kv.2))/\kvs.length<=15/\∀ ep,Q (.ref p) (upd H2 p (.dD ep ((eQ [] kvs).map cvK)))
section
variable {X:Cx} {pos:Pos}
theorem wR:PE X (.Dict [] [] pos) pj:=fun pins s σ H Q I h =>
 wpAny_Dict_empty ⟨.ref s.heap.objs.size,_,I.laid (o:=.dD 0 []) (t':=s.toks) (fun _ _ q=>Ja _ q) (IY _) (o9 s.heap I.big),rfl,h _ (I.hok.fresh (IY _))⟩
theorem wF {keys:List (Option Expr)} {values:List Expr} {trs:List (TE×TE)} (h:PPs X pos keys values trs) (hall:keys.all (·.isSome)=true) (hl:keys.length=values.length) (h0:keys≠[])
  (h15:keys.length<=15):PE X (.Dict keys values pos) (pE trs):=by
 intro pins s σ H Q I q;have hn:=I.hok.fresh (IY s.heap.objs.size);have I1:=I.laid (o:=.dD 0 []) (h':=s.heap.push { cls:=.type "dict", data:=.dict #[] }) (t':=s.toks) (fun _ _ q=>Ja _ q) (IY _) (o9 s.heap I.big);refine wpAny_Dict_walk (knd:=bS X.prog X.w) hall hl h0 h15 (thn (h pins _ σ _ _ I1 (q _ hn)) fun ws s2 ⟨ps,H2,I2,rel,e,kvs,ep,lk,q2⟩=>?_);subst ep;obtain ⟨rs,c,rk⟩:=kz (P:=X.prog) (w:=X.w) rel;obtain ⟨z,hd,nd,o,es,g1,g2,g3,g4⟩:=(show b6 X.prog X.w H2 s2.heap s.heap.objs.size (.dD 0 []) from I2.hok _ _ e);have ees:es=#[]:=by
  cases es with
  | mk l=>cases g4;rfl
 subst ees;have dd:s2.heap.DictOf (bS X.prog X.w) s.heap.objs.size []:=⟨o,#[],0,g1,g2,g3,fun e he=>by simp at he,.nil,List.nodup_nil⟩;refine ⟨rs,c,dd,fun h' dd' hs=>?_⟩;have hz:(eQ [] kvs).length<=sizeLine:=by
  have h1:=gw kvs [];rw [Ke] at h1;rw [Kb];omega
 have he:∃ q,h'.get? s.heap.objs.size=some q:=let ⟨q,_,_,hq,_⟩:=dd';⟨q,hq⟩
 obtain ⟨ep,new⟩:=FA (H:=upd H2 s.heap.objs.size (.dD 0 [])) hz hd (rk.merge .nil) dd';exact ⟨.ref s.heap.objs.size,_,n5 I2 (by rw [e];exact True.intro) hs he (ob:=.dD ep ((eQ [] kvs).map cvK)) new,rfl,q2 ep⟩
end
def qw (xs:List (PyData×V×V)) (k:PyData):Option V:=(xs.find? fun x=>PyData.eqv x.1 k).map (·.2.2)
def pP (xs:List (PyData×V×V)) (k:PyData) (j v:V):List (PyData×V×V) :=
 if (xs.any fun x=>PyData.eqv x.1 k)=true then xs.map (fun x=>if PyData.eqv x.1 k=true then (x.1,x.2.1,v) else x) else xs++[(k,j,v)]
def jY (h:Heap) (xs:List (PyData×V×V)):Prop:=∀ x∈xs,kyB x.1=true/\∀ u,RelV x.2.1 u->∃ bs,Reads h u x.1 bs
section
variable {X:Cx} {pins:List (Addr×Obj)} {σ:St} {H:Hp} {s:Shared} {a:Addr} {A:Around} {E:Value->Shared->Prop} {ep:Nat} {xs:List (PyData×V×V)} {k:PyData} {u:Value} {as:List Addr}
theorem fV {α β:Type} {R:α->β->Prop}:∀ {l:List α} {m:List β},Paired R l m->∀ (j:Nat) (x:α),l[j]?=some x->∃ y,m[j]?=some y/\R x y
 | _,_,.nil,j,x,e=>by simp at e
 | _,_,.cons r t,0,x,e=>by simp at e;subst e;exact ⟨_,rfl,r⟩
 | _,_,.cons r t,j+1,x,e=>by simpa using fV t j x (by simpa using e)
theorem tQ {P:Program} {w:World} {h:Heap} {es:Array DictEntry} (kr:jY h xs) (nd:(xs.map (·.1)).Nodup) (r:Paired (yB w) xs es.toList):Ai w h es (xs.map (·.1)) where
 len:=by rw [IK,Lc r];simp
 nd:=nd
 at_:=fun j k e=>by
  rw [Jd] at e;obtain ⟨x,hx,rfl⟩:=Jp.mp e;obtain ⟨en,h1,h2,h3,h4⟩:=fV r j x hx;obtain ⟨k1,k2⟩:=kr x (Jn hx);obtain ⟨bs,r1⟩:=k2 _ h3;exact ⟨k1,en,bs,by simpa using h1,h2,r1⟩
theorem uV {j:Nat} (kr:jY s.heap xs) (nd:(xs.map (·.1)).Nodup) (ky:kyB k=true) (hj:(xs.map (·.1))[j]?=some k):∃ x,xs[j]?=some x/\x.1=k/\xs.find? (fun x=>PyData.eqv x.1 k)=some x:=by
 rw [Jd] at hj;obtain ⟨x,hx,rfl⟩:=Jp.mp hj;refine ⟨x,hx,rfl,?_⟩;rw [List.find?_eq_some_iff_getElem];obtain ⟨hl,e⟩:=IL.mp hx;refine ⟨(iy _ _ (aX.mp ky).1 (aX.mp ky).1).mpr rfl,j,hl,e,fun i hi=>?_⟩;have hil:i < xs.length:=by omega
 cases q:PyData.eqv xs[i].1 x.1 with
 | false=>rfl
 | true =>
  have z:=(iy _ _ (aX.mp (kr _ (Lf hil)).1).1 (aX.mp ky).1).mp q;have e1:(xs.map (·.1))[i]?=some x.1:=by rw [Jd,II hil,Ln,z]
  have e2:(xs.map (·.1))[j]?=some x.1:=by rw [Jd,hx];rfl
  have:=(List.getElem?_inj (by rw [IK];exact hil) nd).mp (e1.trans e2.symm);omega
theorem uO (kr:jY s.heap xs) (ky:kyB k=true) (h:∀ j:Nat,(xs.map (·.1))[j]?≠some k):xs.find? (fun x=>PyData.eqv x.1 k)=none:=by
 rw [List.find?_eq_none];intro x hx q;have z:=(iy _ _ (aX.mp (kr x hx).1).1 (aX.mp ky).1).mp q;obtain ⟨j,hj⟩:=Kt.mp hx;exact h j (by rw [Jd,hj,Ln,z])
theorem BN {Q:Option Value->Shared->Prop} (hu:A.units+6 < cLine) (I:Inv X pins σ H s) (e:H a=some (.dD ep xs)) (kr:jY s.heap xs) (hk:Reads s.heap u k as) (ky:kyB k=true)
  (q:∀ t ov,FP (qw xs k) ov->Q ov { s with toks:=t }):wpAny (model X.prog X.w) A (dictGet a u) Q E s:=by
 obtain ⟨z,hd,nd,o,es,g1,g2,g3,g4⟩:=(show b6 X.prog X.w H s.heap a (.dD ep xs) from I.hok _ _ e);unfold dictGet;refine Ka (IH (xS 6 hk (aX.mp ky).1 (aX.mp ky).2.2 hu fun t=>?_));refine IH (xw (s:={ s with toks:=t }) hu hk ky g1 g3 (tQ (P:=X.prog) kr nd g4) (fun hno=>?_) fun j hj=>?_)
 ·refine IQ (q _ _ ?_);unfold qw;rw [uO (s:=s) kr ky hno];exact True.intro
 ·obtain ⟨x,hx,e1,e2⟩:=uV (s:=s) kr nd ky hj;obtain ⟨en,h1,h2,h3,h4⟩:=fV g4 j x hx;refine IH (KQ (s:={ s with toks:=t }) g1 g3 (IQ (q _ _ ?_)));unfold qw;rw [e2,show es[j]?=some en by simpa using h1];exact h4
theorem lz (I:Inv X pins σ H s) (e:H a=some (.dD ep xs)):s.TypeIs (.ref a) "dict" /\ (a==sysModules)=false:=by
 obtain ⟨z,hd,nd,o,es,g1,g2,g3,g4⟩:=(show b6 X.prog X.w H s.heap a (.dD ep xs) from I.hok _ _ e);exact ⟨⟨o,g1,g2.1⟩,hd⟩
theorem C9 {v:V} {Q:Value->Shared->Prop} (hu:A.units+7 < cLine) (I:Inv X pins σ H s) (e:H a=some (.dD ep xs)) (kr:jY s.heap xs) (hk:Reads s.heap u k as) (ky:kyB k=true) (hv:qw xs k=some v)
  (q:∀ t w',RelV v w'->Q w' { s with toks:=t }):wpAny (model X.prog X.w) A (getItem (.ref a) u) Q E s:=by
 obtain ⟨T,_⟩:=lz I e;unfold getItem;refine Ka (IH (wpAny_sequenceKey T (by decide) (IH (Kq (name:=Str.ofString "__getitem__") T slot_dict_getitem (Kp slot_dict_getitem T entry_dict_getitem ?_ (args_dict_getitem _ _))))));refine IH (m:=dictGet a u) (BN (by have:A.in1.units=A.units+1:=rfl;omega) I e kr hk ky fun t ov r=>?_);rw [hv] at r;cases ov with
 | none=>cases r
 | some w'=>exact IQ ⟨w',rfl,IQ (q t w' r)⟩
theorem FJ {Q:Bool->Shared->Prop} (hu:A.units+7 < cLine) (I:Inv X pins σ H s) (e:H a=some (.dD ep xs)) (kr:jY s.heap xs) (hk:Reads s.heap u k as) (ky:kyB k=true)
  (q:∀ t,Q (qw xs k).isSome { s with toks:=t }):wpAny (model X.prog X.w) A (contains (.ref a) u) Q E s:=by
 obtain ⟨T,hd⟩:=lz I e;unfold contains;refine Ka (IH (Lm T slot_dict_contains.lookup ?_));show wpAny _ _ (if (some (Value.builtin "dict.__contains__")==some Value.none)=true then _ else _) _ E s;rw [IV (by rw [beq_builtin_none];exact Jf)];refine IH (wpAny_callSpecialUnlessNone?_slot (name:=Str.ofString "__contains__") T slot_dict_contains (Kp slot_dict_contains T entry_dict_contains ?_ (args_dict_contains _ _)));refine IH (m:=dictGet a u) (BN (by have:A.in1.units=A.units+1:=rfl;omega) I e kr hk ky fun t ov r=>?_);cases hv:qw xs k with
 | some v =>
  rw [hv] at r;cases ov with
  | none=>cases r
  | some w' =>
   show wpAny _ _ (ret (.bool true)) _ _ _;have:=q t;rw [hv] at this;exact IQ ⟨_,rfl,JR this⟩
 | none =>
  rw [hv] at r;cases ov with
  | some w'=>cases r
  | none =>
   show wpAny _ _ (Builtin.Dict.pendingKey? a u>>=_) _ _ _;have:=q t;rw [hv] at this;exact IH (wpAny_pendingKey_other hd (IQ ⟨_,rfl,JR this⟩))
theorem pO {j v:V}:(pP xs k j v).length<=xs.length+1:=by
 unfold pP;split
 ·rw [IK];omega
 ·rw [IJ];exact IY _
theorem qd {j v:V} (h:xs.find? (fun x=>PyData.eqv x.1 k)=none):pP xs k j v=xs++[(k,j,v)]:=by
 unfold pP;rw [IV];rw [Li];rintro ⟨x,hx,q⟩;exact absurd q (by simpa using List.find?_eq_none.mp h x hx)
theorem pJ {j v:V} {x:PyData×V×V} (h:xs.find? (fun x=>PyData.eqv x.1 k)=some x):pP xs k j v=xs.map (fun x=>if PyData.eqv x.1 k=true then (x.1,x.2.1,v) else x):=by
 unfold pP;rw [IX];rw [Li];exact ⟨x,List.mem_of_find?_eq_some h,by simpa using List.find?_some h⟩
theorem uX {w:World} {h:Heap} {v:V} {r:Value} (ky:kyB k=true) (rv:RelV v r):∀ {xs:List (PyData×V×V)} {es:List DictEntry} {i:Nat},jY h xs->(xs.map (·.1)).Nodup->(xs.map (·.1))[i]?=some k->Paired (yB w) xs es ->
  Paired (yB w) (xs.map (fun x=>if PyData.eqv x.1 k=true then (x.1,x.2.1,v) else x)) (es.modify i fun e=>{ e with val:=r })
 | [],es,i,_,_,hi,_=>by simp at hi
 | x :: xs,es,i,kr,nd,hi,p=>by
  cases p with
  | @cons _ e _ es' h1 h2 =>
   have ky':=(kr x IU).1;rw [JK,J2] at nd;have off:∀ {ys:List (PyData×V×V)} {fs:List DictEntry},k ∉ ys.map (·.1)->jY h ys->Paired (yB w) ys fs->Paired (yB w) (ys.map (fun x=>if PyData.eqv x.1 k=true then (x.1,x.2.1,v) else x)) fs:=by
    intro ys fs hn kr' q;have:(ys.map (fun x=>if PyData.eqv x.1 k=true then (x.1,x.2.1,v) else x))=ys:=by
     refine (List.map_congr_left fun y hy=>?_).trans (List.map_id _);rw [IV]
     ·rfl
     ·intro z;exact hn (JB.mpr ⟨y,hy,(iy _ _ (aX.mp (kr' y hy).1).1 (aX.mp ky).1).mp z⟩)
    rw [this];exact q
   cases i with
   | zero =>
    simp at hi;subst hi;rw [JK,IX ((iy _ _ (aX.mp ky).1 (aX.mp ky).1).mpr rfl)];exact .cons ⟨h1.1,h1.2.1,rv⟩ (off nd.1 (fun y hy=>kr y (Jb _ hy)) h2)
   | succ i =>
    have hi':(xs.map (·.1))[i]?=some k:=by simpa using hi
    have ne:x.1≠k:=fun z=>nd.1 (by rw [z];exact Jn hi');rw [JK,IV fun z=>ne ((iy _ _ (aX.mp ky').1 (aX.mp ky).1).mp z)];exact .cons h1 (uX ky rv (fun y hy=>kr y (Jb _ hy)) nd.2 hi' h2)
theorem GV {j v:V} {r:Value} {Q:Unit->Shared->Prop} (hu:A.units+7 < cLine) (I:Inv X pins σ H s) (e:H a=some (.dD ep xs)) (kr:jY s.heap xs) (hk:Reads s.heap u k as) (ky:kyB k=true) (rj:RelV j u) (rv:RelV v r) (hl:xs.length < sizeLine)
  (q:∀ ep' s',Inv X pins σ (upd H a (.dD ep' (pP xs k j v))) s'->Q () s'):wpAny (model X.prog X.w) A (setItem (.ref a) u r) Q E s:=by
 obtain ⟨T,hd⟩:=lz I e;obtain ⟨z,_,nd,o,es,g1,g2,g3,g4⟩:=(show b6 X.prog X.w H s.heap a (.dD ep xs) from I.hok _ _ e);have hsz:es.size=xs.length:=by rw [Lc g4];simp
 unfold setItem;refine Ka (IH (wpAny_sequenceKey T (by decide) (IH (Kq (name:=Str.ofString "__setitem__") T slot_dict_setitem (Kp slot_dict_setitem T entry_dict_setitem ?_ (args_dict_setitem _ _ _))))));refine IH (m:=Builtin.Dict.notOrdered "__setitem__" ⟨[.ref a,u,r],[]⟩) (wpAny_notOrdered_dict T ?_);refine IH (m:=dictSet a u r) ?_;unfold dictSet dictSetHashed;refine Ka (IH (xS 6 hk (aX.mp ky).1 (aX.mp ky).2.2 (by have:A.in1.units=A.units+1:=rfl;omega) fun t=>Ka ?_));have hl':(pP xs k j v).length<=sizeLine:=by have:=pO (xs:=xs) (k:=k) (j:=j) (v:=v);omega
 refine IH (xw (s:={ s with toks:=t }) (by have:A.in1.units=A.units+1:=rfl;omega) hk ky g1 g3 (tQ (P:=X.prog) kr nd g4) (fun hno=>?_) fun i hi=>?_)
 ·have fn:=uO (s:=s) kr ky hno;refine IH (Kd (wpAny_updateDictKeys (s:={ s with toks:=t }) (hz:=by omega) g1 g3 (IQ ⟨.none,rfl,IQ (q (ep+1) _ (n5 (t':=t) (I.tok t) (by rw [e];exact True.intro) (Heap.SameBut.update ..) ⟨_,KW _ g1 (Obj.isFreed_of_dict (Obj.data_mapDictKeys g3 _))⟩ ?_))⟩)));refine ⟨hl',hd,?_,_,_,KW _ g1 (Obj.isFreed_of_dict (Obj.data_mapDictKeys g3 _)),g2.mapDictKeys _,Obj.data_mapDictKeys g3 _,?_⟩
  ·rw [qd fn,J6,JQ];refine ⟨nd,by simp,fun y hy z hz=>?_⟩;simp only [JK,List.map_nil,IZ] at hz;subst hz;rintro rfl;obtain ⟨i,hi⟩:=Kt.mp hy;exact hno i hi
  ·rw [qd fn,Array.toList_push];exact Paired.snoc g4 ⟨rfl,rj,rv⟩
 ·obtain ⟨x,hx,e1,e2⟩:=uV (s:=s) kr nd ky hi;refine IH (Kd (IH (wpAny_updateDict (s:={ s with toks:=t }) g1 g3 (wpAny_point (IQ ⟨.none,rfl,IQ (q ep _ (n5 (t':=t) (I.tok t) (by rw [e];exact True.intro) (Heap.SameBut.update ..) ⟨_,KW _ g1 (Obj.isFreed_of_dict (Obj.data_mapDict g3 _))⟩ ?_))⟩)))));refine ⟨hl',hd,?_,_,_,KW _ g1 (Obj.isFreed_of_dict (Obj.data_mapDict g3 _)),g2.mapDict _,Obj.data_mapDict g3 _,?_⟩
  ·rw [pJ e2,KA];have:(xs.map ((fun x:PyData×V×V=>x.1)∘fun y=>if PyData.eqv y.1 k=true then (y.1,y.2.1,v) else y))=xs.map (·.1):=List.map_congr_left fun y _=>by
    show (if PyData.eqv y.1 k=true then (y.1,y.2.1,v) else y).1=y.1;split <;> rfl
   rw [this];exact nd
  ·rw [pJ e2,Array.toList_modify];exact uX ky rv kr nd hi g4
end
end L2
end
section
namespace L2
open PySem PySem.Spec PyProof.Rows
section
variable {P:Program} {w:World} {A:Around} {E:Value->Shared->Prop} {s:Shared} {it d:Addr} {o od:Obj} {es:Array DictEntry} {i ep:Nat}
theorem B4 {Q:Value->Shared->Prop} (hd:(d==sysModules)=false) (g1:s.heap.get? d=some od) (g2:od.ExactDict) (g3:od.data=.dict es ep)
  (q:Q (.ref s.heap.objs.size) { s with heap:=s.heap.push { cls:=.type "dict_keyiterator", data:=.fields #[.ref d,.int 0 0,.int es.size 0,.int ep 0] } }):wpAny (model P w) A (pyIter (.ref d)) Q E s:=by
 have T:s.TypeIs (.ref d) "dict" := ⟨od,g1,g2.1⟩;refine wpAny_pyIter_slot T F.slot_dict_iter (Kp F.slot_dict_iter T F.entry_dict_iter ?_ (F.args_dict_iter_1 _));unfold Builtin.«dict.__iter__» Builtin.Dict.dictSlotNone
 refine IH (IH (wpAny_notOrdered_dict T ?_));show wpAny _ _ (pure (Value.ref d):Sem Value) _ _ s;refine IQ ?_;show wpAny _ _ (Builtin.Dict.showsAll d>>=_) _ _ s;unfold Builtin.Dict.showsAll;rw [IV (by rw [hd];exact Jf)];refine IH (IQ (IH (KQ g1 g3 (IH (Km g1 g3 ?_)))));exact IH (Kc (IQ ⟨_,rfl, "dict_keyiterator", _,⟨_,Jt _ rfl,rfl⟩,K2.lookup,q⟩))
theorem B5 {Q:Option Value->Shared->Prop} (hit:s.heap.IsKeyIter it d i es.size ep) (g1:s.heap.get? d=some od) (g3:od.data=.dict es ep) {e:DictEntry} (he:es[i]?=some e)
  (q:∀ h',h'.IsKeyIter it d (i+1) es.size ep->Heap.SameBut it s.heap h'->Q (some e.key) { s with heap:=h' }):wpAny (model P w) A (pyNext (.ref it)) Q E s:=by
 obtain ⟨ob,ho,hc,hd⟩:=id hit;have T:=hit.typeIs;unfold pyNext;refine IH (wpAny_attempt (Kq (name:=Str.ofString "__next__") T K2 (Kp K2 T F.entry_dict_keyiterator_next ?_ (F.args_dict_keyiterator_next_1 _))));refine IH (IQ (IH (IH ?_)));first | refine IH (K0 T (IQ (IH (wpAny_fieldsOf ho hd ?_)))) | refine IH (Lb T (IQ (IH (wpAny_fieldsOf ho hd ?_))))
 simp only [show Builtin.Dict_items.ownsTuple "dict_keyiterator" = false by decide,KP,KG];show wpAny _ _ (if (Value.ref d==Value.none)=true then _ else _) _ _ s;rw [IV (show ¬((Value.ref d==Value.none)=true) from Jf)];refine IH (IQ (IH (KQ g1 g3 ?_)));rw [IV (by simp)];refine IH (IQ (IH (Km g1 g3 ?_)));rw [IV (by simp)];refine IQ ?_;simp only [show ¬((i:Int) < 0) from by omega,KG,Int.toNat_natCast,he];refine IH ?_;first | refine IH (K0 T (IQ (IH (wpAny_isOneOf_keyiter T ?_)))) | refine IH (Lb T (IQ (IH (wpAny_isOneOf_keyiter T ?_))))
 show wpAny _ _ (setField (.ref it) 1 (rawInt ((i:Int)+1))>>=_) _ _ s;have hit':(s.heap.update it (Obj.mapFields (·.setIfInBounds 1 (rawInt ((i:Int)+1))))).IsKeyIter it d (i+1) es.size ep :=
  ⟨_,KW _ ho (Obj.isFreed_of_fields (Obj.data_mapFields hd _)),(Obj.cls_mapFields ..).trans hc,by rw [Obj.data_mapFields hd];simp [rawInt]⟩
 refine IH (wpAny_setField ho hd (by simp) (IH (Ka ?_)));refine IH (wpAny_isOneOf_keyiter (s:={ s with heap:=s.heap.update it (Obj.mapFields (·.setIfInBounds 1 (rawInt ((i:Int)+1)))) }) hit'.typeIs ?_);show wpAny _ _ (pure e.key:Sem Value) _ _ _;exact IQ (IQ ⟨_,rfl,IQ (q _ hit' (Heap.SameBut.update ..))⟩)
theorem EA {Q:Option Value->Shared->Prop} (hh:A.handled=none) (hit:s.heap.IsKeyIter it d i es.size ep) (g1:s.heap.get? d=some od) (g3:od.data=.dict es ep) (he:es.size<=i)
  (q:∀ h',Heap.ExtBut it s.heap h'->Q none { s with heap:=h' }):wpAny (model P w) A (pyNext (.ref it)) Q E s:=by
 obtain ⟨ob,ho,hc,hd⟩:=id hit;have T:=hit.typeIs;unfold pyNext;refine IH (wpAny_attempt (Kq (name:=Str.ofString "__next__") T K2 (Kp K2 T F.entry_dict_keyiterator_next ?_ (F.args_dict_keyiterator_next_1 _))));refine IH (IQ (IH (IH ?_)));first | refine IH (K0 T (IQ (IH (wpAny_fieldsOf ho hd ?_)))) | refine IH (Lb T (IQ (IH (wpAny_fieldsOf ho hd ?_))))
 simp only [show Builtin.Dict_items.ownsTuple "dict_keyiterator" = false by decide,KP,KG];show wpAny _ _ (if (Value.ref d==Value.none)=true then _ else _) _ _ s;rw [IV (show ¬((Value.ref d==Value.none)=true) from Jf)];refine IH (IQ (IH (KQ g1 g3 ?_)));rw [IV (by simp)];refine IH (IQ (IH (Km g1 g3 ?_)));rw [IV (by simp)];refine IQ ?_;simp only [show ¬((i:Int) < 0) from by omega,KG,Int.toNat_natCast,Array.getElem?_eq_none he];refine IH ?_;first | refine IH (K0 T (IQ ?_)) | refine IH (Lb T (IQ ?_))
 show wpAny _ _ (setField (.ref it) 0 .none>>=_) _ _ s;refine IH (wpAny_setField ho hd (by simp) ?_);show wpAny _ _ (newExc (.type "StopIteration") []>>=_) _ _ _;refine IH ?_;simp only [newExc,newTuple];refine IH (Kc (IH (m:=firstArgMember _ _) (wpAny_of_eq (a:=Value.none) (by first | rfl | (simp only [firstArgMember];rfl)) (Kc ?_ (by size_fits)))) (by size_fits));simp only [raiseNew];refine IH (wpAny_handled ?_);rw [show A.in1.handled=none from hh];refine IH (IQ (wpAny_throw ?_));refine IH (wpAny_isInstance (b:=true) (T := "StopIteration") ⟨_,Jt _ rfl,rfl⟩ isSubtype_stop ?_);exact IQ (q _ (((Heap.SameBut.update ..).extBut.push _).push _))
end
def Itd (a:Addr) (ep:Nat) (xs:List (PyData×V×V)):It :=
 ⟨fun i H=>H a=some (.dD ep xs)/\i < xs.length,fun i H x H'=>H'=H/\(xs[i]?).map (·.2.1)=some x,fun i H=>H a=some (.dD ep xs)/\xs.length<=i⟩
def Iz (tl:TE):TI:=fun σ H R=>tl σ H fun x H1=>∃ a ep xs,x=.ref a/\H1 a=some (.dD ep xs)/\R (Itd a ep xs) H1
end L2
end
section
namespace L2
open PySem PySem.Spec PyProof.Rows
section
variable {X:Cx} {pins:List (Addr×Obj)} {σ:List (Option V)} {H:Hp} {s:Shared} {h':Heap}
end
def Itz (K:Fg) (a b:Addr) (xs ys:List V):It :=
 ⟨fun i H=>SqL K H a xs/\SqL K H b ys/\i < xs.length/\i < ys.length,fun i H x H'=>∃ p u v,H p=none/\x=.ref p/\xs[i]?=some u/\ys[i]?=some v/\H'=upd H p (.tup [u,v]),fun i H=>SqL K H a xs/\SqL K H b ys/\(xs.length<=i\/ys.length<=i)⟩
def IE (K:Fg) (t:TA):TI:=fun σ H R=>t σ H fun vs H1=>∃ a b xs ys,vs=[.ref a,.ref b]/\SqL K H1 a xs/\SqL K H1 b ys/\R (Itz K a b xs ys) H1
end L2
end
section
namespace L2
open PySem
def HM (K:Fg) (a:Addr) (xs:List V):Prop:=∃ (o:Obj) (its:Array Value) (n:Nat),K.lookup a=some o/\o.cls=.type "list" /\ o.dict=none/\o.data=.seq its n/\its.size<=sizeLine/\Vals xs its.toList
def LsF (K:Fg) (F:Addr->Prop) (H:Hp) (a:Addr) (xs:List V):Prop:=(¬F a/\Rd H a (.lst xs))\/HM K a xs
mutual
def Dm (K:Fg) (F:Addr->Prop) (H:Hp):PyData->V->Prop
 | .none,v=>v=.non
 | .bool b,v=>v=.bl b
 | .int i,v=>v=.int i
 | .str x,v=>v=.str x/\x.length<=sizeLine/\PyData.strOk x=true
 | .list ds,v=>∃ a xs,v=.ref a/\LsF K F H a xs/\xs.length<=sizeLine/\DmL K F H ds xs
 | .tuple ds,v=>∃ a xs,v=.ref a/\SqT K H a xs/\xs.length<=sizeLine/\DmL K F H ds xs
 | .dict kvs,v=>∃ a ep xs,v=.ref a/\¬F a/\H a=some (.dD ep xs)/\xs.length<=sizeLine/\DmP K F H kvs xs
def DmL (K:Fg) (F:Addr->Prop) (H:Hp):List PyData->List V->Prop
 | [],vs=>vs=[]
 | d :: ds,vs=>∃ v r,vs=v :: r/\Dm K F H d v/\DmL K F H ds r
def DmP (K:Fg) (F:Addr->Prop) (H:Hp):List (PyData×PyData)->List (PyData×V×V)->Prop
 | [],vs=>vs=[]
 | (k,d) :: ds,vs=>∃ j v r,vs=(k,j,v) :: r/\hk6 k=true/\Dm K F H k j/\Dm K F H d v/\DmP K F H ds r
end
def Wr:HO->Bool | .lst _=>true | .dD _ _=>true | _=>false
def Pr (F:Addr->Prop) (H H':Hp):Prop:=∀ b o,H b=some o->(¬F b\/Wr o=false)->H' b=some o
section
variable {K:PySem.W.Frag} {F F':Addr->Prop} {H H':Hp}
theorem SqT.pr {a:Addr} {xs:List V} (p:Pr F H H') (h:SqT K H a xs):SqT K H' a xs:=by
 rcases h with (h | ⟨o,h⟩) | h
 ·exact .inl (.inl (p _ _ h (.inr rfl)))
 ·exact .inl (.inr ⟨o,p _ _ h (.inr rfl)⟩)
 ·exact .inr h
theorem LsF.pr {a:Addr} {xs:List V} (p:Pr F H H') (hf:∀ b,F' b->F b) (h:LsF K F H a xs):LsF K F' H' a xs:=by
 rcases h with ⟨n,h | ⟨o,h⟩⟩ | h
 ·exact .inl ⟨fun z=>n (hf _ z),.inl (p _ _ h (.inl n))⟩
 ·exact .inl ⟨fun z=>n (hf _ z),.inr ⟨o,p _ _ h (.inl n)⟩⟩
 ·exact .inr h
mutual
theorem Dm.pr (p:Pr F H H') (hf:∀ b,F' b->F b):∀ {d:PyData} {v:V},Dm K F H d v->Dm K F' H' d v
 | .none,v,h=>h
 | .bool b,v,h=>h
 | .int i,v,h=>h
 | .str x,v,h=>h
 | .list ds,v,h=>by
  obtain ⟨a,xs,e,l,z,r⟩:=h;exact ⟨a,xs,e,l.pr p hf,z,DmL.pr p hf r⟩
 | .tuple ds,v,h=>by
  obtain ⟨a,xs,e,l,z,r⟩:=h;exact ⟨a,xs,e,l.pr p,z,DmL.pr p hf r⟩
 | .dict kvs,v,h=>by
  obtain ⟨a,ep,xs,e,n,l,z,r⟩:=h;exact ⟨a,ep,xs,e,fun q=>n (hf _ q),p _ _ l (.inl n),z,DmP.pr p hf r⟩
theorem DmL.pr (p:Pr F H H') (hf:∀ b,F' b->F b):∀ {ds:List PyData} {vs:List V},DmL K F H ds vs->DmL K F' H' ds vs
 | [],vs,h=>h
 | d :: ds,vs,h=>by
  obtain ⟨v,r,e,h1,h2⟩:=h;exact ⟨v,r,e,Dm.pr p hf h1,DmL.pr p hf h2⟩
theorem DmP.pr (p:Pr F H H') (hf:∀ b,F' b->F b):∀ {ds:List (PyData×PyData)} {vs:List (PyData×V×V)},DmP K F H ds vs->DmP K F' H' ds vs
 | [],vs,h=>h
 | (k,d) :: ds,vs,h=>by
  obtain ⟨j,v,r,e,e2,h0,h1,h2⟩:=h;exact ⟨j,v,r,e,e2,Dm.pr p hf h0,Dm.pr p hf h1,DmP.pr p hf h2⟩
end
theorem LsF.fresh {a c:Addr} {xs:List V} (hc:H c=none) (h:LsF K F H a xs):LsF K (fun b=>F b\/b=c) H a xs:=by
 rcases h with ⟨n,h⟩ | h
 ·refine .inl ⟨fun z=>z.elim n fun e=>?_,h⟩;subst e;rcases h with h | ⟨o,h⟩ <;> (rw [hc] at h;cases h)
 ·exact .inr h
mutual
theorem Dm.fresh {c:Addr} (hc:H c=none):∀ {d:PyData} {v:V},Dm K F H d v->Dm K (fun b=>F b\/b=c) H d v
 | .none,v,h=>h
 | .bool b,v,h=>h
 | .int i,v,h=>h
 | .str x,v,h=>h
 | .list ds,v,h=>by
  obtain ⟨a,xs,e,l,z,r⟩:=h;exact ⟨a,xs,e,l.fresh hc,z,DmL.fresh hc r⟩
 | .tuple ds,v,h=>by
  obtain ⟨a,xs,e,l,z,r⟩:=h;exact ⟨a,xs,e,l,z,DmL.fresh hc r⟩
 | .dict kvs,v,h=>by
  obtain ⟨a,ep,xs,e,n,l,z,r⟩:=h;exact ⟨a,ep,xs,e,fun q=>q.elim n fun q=>(by subst q;rw [hc] at l;cases l),l,z,DmP.fresh hc r⟩
theorem DmL.fresh {c:Addr} (hc:H c=none):∀ {ds:List PyData} {vs:List V},DmL K F H ds vs->DmL K (fun b=>F b\/b=c) H ds vs
 | [],vs,h=>h
 | d :: ds,vs,h=>by
  obtain ⟨v,r,e,h1,h2⟩:=h;exact ⟨v,r,e,Dm.fresh hc h1,DmL.fresh hc h2⟩
theorem DmP.fresh {c:Addr} (hc:H c=none):∀ {ds:List (PyData×PyData)} {vs:List (PyData×V×V)},DmP K F H ds vs->DmP K (fun b=>F b\/b=c) H ds vs
 | [],vs,h=>h
 | (k,d) :: ds,vs,h=>by
  obtain ⟨j,v,r,e,e2,h0,h1,h2⟩:=h;exact ⟨j,v,r,e,e2,Dm.fresh hc h0,Dm.fresh hc h1,DmP.fresh hc h2⟩
end
theorem Pr.refl:Pr F H H:=fun _ _ h _=>h
theorem Pr.trans {H1 H2:Hp} (a:Pr F H H1) (b:Pr F' H1 H2) (hf:∀ b,F' b->F b):Pr F H H2:=fun c o h n=>b c o (a c o h n) (n.imp (fun z q=>z (hf _ q)) id)
theorem Pr.of_same (a:bf H H'):Pr F H H':=fun c o h _=>a c o h
theorem Dm.mono (hf:∀ b,F' b->F b) {d:PyData} {v:V} (h:Dm K F H d v):Dm K F' H d v:=h.pr Pr.refl hf
theorem DmL.mono (hf:∀ b,F' b->F b) {d:List PyData} {v:List V} (h:DmL K F H d v):DmL K F' H d v:=h.pr Pr.refl hf
theorem DmL.len:∀ {ds:List PyData} {vs:List V},DmL K F H ds vs->vs.length=ds.length
 | [],vs,h=>by rw [show vs=[] from h];rfl
 | d :: ds,vs,h=>by
  obtain ⟨v,r,e,h1,h2⟩:=h;rw [e,Jk,Jk,DmL.len h2]
theorem DmL.get:∀ {ds:List PyData} {vs:List V} {i:Nat} {d:PyData},DmL K F H ds vs->ds[i]?=some d->∃ v,vs[i]?=some v/\Dm K F H d v
 | [],vs,_,_,h,e=>by simp at e
 | d :: ds,vs,0,d',h,e=>by
  obtain ⟨v,r,e1,h1,h2⟩:=h;simp at e;subst e;subst e1;exact ⟨v,rfl,h1⟩
 | d :: ds,vs,i+1,d',h,e=>by
  obtain ⟨v,r,e1,h1,h2⟩:=h;subst e1;obtain ⟨w,q1,q2⟩:=DmL.get (i:=i) h2 (by simpa using e);exact ⟨w,by simpa using q1,q2⟩
theorem DmL.get' {ds:List PyData} {vs:List V} {i:Nat} {v:V} (h:DmL K F H ds vs) (e:vs[i]?=some v):∃ d,ds[i]?=some d/\Dm K F H d v:=by
 have hl:=h.len;have hi:i < vs.length:=(IL.mp e).1;have hd:ds[i]?=some (ds[i]'(by omega)):=II _;obtain ⟨w,e2,q⟩:=h.get hd;rw [e] at e2;cases e2;exact ⟨_,hd,q⟩
theorem DmL.app:∀ {ds es:List PyData} {vs ws:List V},DmL K F H ds vs->DmL K F H es ws->DmL K F H (ds++es) (vs++ws)
 | [],es,vs,ws,h,q=>by rw [show vs=[] from h];exact q
 | d :: ds,es,vs,ws,h,q=>by
  obtain ⟨v,r,e,h1,h2⟩:=h;subst e;exact ⟨v,r++ws,rfl,h1,DmL.app h2 q⟩
theorem DmL.snoc {ds:List PyData} {vs:List V} {d:PyData} {v:V} (h:DmL K F H ds vs) (q:Dm K F H d v):DmL K F H (ds++[d]) (vs++[v]):=h.app ⟨v,[],rfl,q,rfl⟩
def Top (K:PySem.W.Frag) (F:Addr->Prop) (H:Hp):PyData->Addr->Prop
 | .list ds,a=>∃ xs,H a=some (.lst xs)/\xs.length<=sizeLine/\DmL K F H ds xs
 | .dict kvs,a=>∃ ep xs,H a=some (.dD ep xs)/\xs.length<=sizeLine/\DmP K F H kvs xs
 | _,_=>False
def sD (K:PySem.W.Frag) (F:Addr->Prop) (H:Hp):PyData->Addr->Prop
 | .list ds,a=>∃ xs,SqL K H a xs/\xs.length<=sizeLine/\DmL K F H ds xs
 | .dict kvs,a=>∃ ep xs,H a=some (.dD ep xs)/\xs.length<=sizeLine/\DmP K F H kvs xs
 | _,_=>False
def Vw (K:PySem.W.Frag) (F:Addr->Prop) (H:Hp):PyData->V->Prop
 | .list ds,v=>∃ a,v=.ref a/\sD K F H (.list ds) a
 | .dict ds,v=>∃ a,v=.ref a/\sD K F H (.dict ds) a
 | d,v=>Dm K F H d v
theorem Top.r {d:PyData} {a:Addr} (h:Top K F H d a):sD K F H d a:=by
 cases d with
 | list ds=>obtain ⟨xs,e,z,r⟩:=h;exact ⟨xs,.inl (.inl e),z,r⟩
 | dict ds=>exact h
 | _=>exact h
theorem sD.vw {d:PyData} {a:Addr} (h:sD K F H d a):Vw K F H d (.ref a):=by
 cases d with
 | list ds=>exact ⟨a,rfl,h⟩
 | dict ds=>exact ⟨a,rfl,h⟩
 | _=>exact absurd h id
theorem Dm.vw {d:PyData} {v:V} (h:Dm K F H d v):Vw K F H d v:=by
 cases d with
 | list ds =>
  obtain ⟨a,xs,e,l,z,r⟩:=h;refine ⟨a,e,xs,?_,z,r⟩;rcases l with ⟨n,l⟩ | l
  ·exact .inl l
  ·exact .inr l
 | dict ds=>obtain ⟨a,ep,xs,e,n,l,z,r⟩:=h;exact ⟨a,e,ep,xs,l,z,r⟩
 | _=>exact h
theorem Top.dm {d:PyData} {a:Addr} (h:Top K F H d a) (n:¬F a):Dm K F H d (.ref a):=by
 cases d with
 | list ds=>obtain ⟨xs,e,z,r⟩:=h;exact ⟨a,xs,rfl,.inl ⟨n,.inl e⟩,z,r⟩
 | dict ds=>obtain ⟨ep,xs,e,z,r⟩:=h;exact ⟨a,ep,xs,rfl,n,e,z,r⟩
 | _=>exact absurd h id
theorem Top.wr {d:PyData} {a:Addr} (h:Top K F H d a):∃ o,H a=some o/\Wr o=true:=by
 cases d with
 | list ds=>obtain ⟨xs,e,_⟩:=h;exact ⟨_,e,rfl⟩
 | dict ds=>obtain ⟨ep,xs,e,_⟩:=h;exact ⟨_,e,rfl⟩
 | _=>exact absurd h id
theorem Top.pr {d:PyData} {a:Addr} (h:Top K F H d a) (p:Pr F H H') (hf:∀ b,F' b->F b) (ha:∀ o,H a=some o->H' a=some o):Top K F' H' d a:=by
 cases d with
 | list ds=>obtain ⟨xs,e,z,r⟩:=h;exact ⟨xs,ha _ e,z,r.pr p hf⟩
 | dict ds=>obtain ⟨ep,xs,e,z,r⟩:=h;exact ⟨ep,xs,ha _ e,z,r.pr p hf⟩
 | _=>exact absurd h id
theorem sD.pr {d:PyData} {a:Addr} (h:sD K F H d a) (p:Pr F H H') (hf:∀ b,F' b->F b) (ha:∀ o,H a=some o->H' a=some o):sD K F' H' d a:=by
 cases d with
 | list ds =>
  obtain ⟨xs,e,z,r⟩:=h;refine ⟨xs,?_,z,r.pr p hf⟩;rcases e with (e | ⟨o,e⟩) | e
  ·exact .inl (.inl (ha _ e))
  ·exact .inl (.inr ⟨o,ha _ e⟩)
  ·exact .inr e
 | dict ds=>obtain ⟨ep,xs,e,z,r⟩:=h;exact ⟨ep,xs,ha _ e,z,r.pr p hf⟩
 | _=>exact absurd h id
theorem Top.fresh {d:PyData} {a c:Addr} (hc:H c=none) (h:Top K F H d a):Top K (fun b=>F b\/b=c) H d a:=by
 cases d with
 | list ds=>obtain ⟨xs,e,z,r⟩:=h;exact ⟨xs,e,z,r.fresh hc⟩
 | dict ds=>obtain ⟨ep,xs,e,z,r⟩:=h;exact ⟨ep,xs,e,z,r.fresh hc⟩
 | _=>exact absurd h id
end
end L2
end
section
namespace L2
open PySem
def DO (K:Fg) (tl:TE):TI:=fun σ H R=>qO K tl σ H R\/Gx K tl σ H R
inductive Sl where | un | dat (d:PyData) | own (d:PyData) | ino (d:PyData) | ro (d:PyData)
abbrev En:=List Sl
inductive RV where | dat (d:PyData) | bor (i:Nat) | frs (d:PyData)
inductive PR where | dat (d:PyData) | frs (d:PyData)
inductive AV where | dat (d:PyData) | bor (i:Nat)
inductive PM where | dat | bor | ino
def PR.rv:PR->RV | .dat d=>.dat d | .frs d=>.frs d
def RV.av:RV->AV | .dat d=>.dat d | .frs d=>.dat d | .bor i=>.bor i
structure Fn where
 ms:List PM
 F:List PyData->Option (PR×List PyData)
def cont (env:En) (i:Nat):Option PyData:=match env[i]? with | some (.own d)=>some d | some (.ino d)=>some d | some (.ro d)=>some d | _=>none
def br (env:En) (i:Nat):Option PyData:=match env[i]? with | some (.own d)=>some d | some (.ino d)=>some d | _=>none
def iG (env:En) (i:Nat) (d:PyData):En:=match env[i]? with | some (.own _)=>env.set i (.own d) | some (.ino _)=>env.set i (.ino d) | _=>env
def AV.view (env:En):AV->Option PyData | .dat d=>some d | .bor i=>cont env i
def RV.view (env:En) (r:RV):Option PyData:=r.av.view env
def mu (env:En) (i:Nat):Prop:=∃ d,env[i]?=some (.own d)\/env[i]?=some (.ino d)
def IA (env:En) (σ:St) (b:Addr):Prop:=∃ i,mu env i/\σ[i]?=some (some (.ref b))
def FF (F0:Addr->Prop) (env:En) (σ:St) (b:Addr):Prop:=F0 b\/∃ (i:Nat) (d:PyData),env[i]?=some (.own d)/\σ[i]?=some (some (.ref b))
def gn (K:Fg) (F I:Addr->Prop) (H:Hp):PyData->Addr->Prop
 | .list ds,a=>∃ xs,LsF K I H a xs/\xs.length<=sizeLine/\DmL K F H ds xs
 | .dict kvs,a=>∃ ep xs,¬I a/\H a=some (.dD ep xs)/\xs.length<=sizeLine/\DmP K F H kvs xs
 | _,_=>False
structure Rel (K:Fg) (F0:Addr->Prop) (H₀:Hp) (I:Addr->Prop) (env:En) (σ:St) (H:Hp):Prop where
 len:env.length=σ.length
 dat:∀ (i:Nat) (d:PyData),env[i]?=some (.dat d)->∃ v,σ[i]?=some (some v)/\Dm K (FF F0 env σ) H d v
 own:∀ (i:Nat) (d:PyData),env[i]?=some (.own d)->∃ a,σ[i]?=some (some (.ref a))/\¬F0 a/\(H₀ a=none\/I a)/\Top K (FF F0 env σ) H d a
 ino:∀ (i:Nat) (d:PyData),env[i]?=some (.ino d)->∃ a,σ[i]?=some (some (.ref a))/\F0 a/\I a/\Top K (FF F0 env σ) H d a
 ro:∀ (i:Nat) (d:PyData),env[i]?=some (.ro d)->∃ a,σ[i]?=some (some (.ref a))/\gn K (FF F0 env σ) (IA env σ) H d a
 sep:∀ i j a,mu env i->mu env j->σ[i]?=some (some (.ref a))->σ[j]?=some (some (.ref a))->i=j
 dom:∀ b,F0 b->H b≠none
 d5:∀ b o,H₀ b=some o->¬I b->H b=some o
section
variable {K:Fg} {F F' I I' F0:Addr->Prop} {H H' H₀:Hp} {env env':En} {σ σ':St}
theorem gn.r {d:PyData} {a:Addr} (h:gn K F I H d a):sD K F H d a:=by
 cases d with
 | list ds =>
  obtain ⟨xs,l,z,r⟩:=h;exact ⟨xs,l.elim (fun q=>.inl q.2) .inr,z,r⟩
 | dict ds=>obtain ⟨ep,xs,n,l,z,r⟩:=h;exact ⟨ep,xs,l,z,r⟩
 | _=>exact absurd h id
theorem gn.pr {d:PyData} {a:Addr} (h:gn K F I H d a) (p:Pr F H H') (hf:∀ b,F' b->F b) (hi:∀ b,I' b->I b) (k:∀ b o,H b=some o->¬I b->H' b=some o):gn K F' I' H' d a:=by
 cases d with
 | list ds =>
  obtain ⟨xs,l,z,r⟩:=h;refine ⟨xs,?_,z,r.pr p hf⟩;rcases l with ⟨n,l | ⟨o,l⟩⟩ | l
  ·exact .inl ⟨fun q=>n (hi _ q),.inl (k _ _ l n)⟩
  ·exact .inl ⟨fun q=>n (hi _ q),.inr ⟨o,k _ _ l n⟩⟩
  ·exact .inr l
 | dict ds=>obtain ⟨ep,xs,n,l,z,r⟩:=h;exact ⟨ep,xs,fun q=>n (hi _ q),k _ _ l n,z,r.pr p hf⟩
 | _=>exact absurd h id
theorem gn.fresh {d:PyData} {a c:Addr} (hc:H c=none) (h:gn K F I H d a):gn K (fun b=>F b\/b=c) I H d a:=by
 cases d with
 | list ds=>obtain ⟨xs,e,z,r⟩:=h;exact ⟨xs,e,z,r.fresh hc⟩
 | dict ds=>obtain ⟨ep,xs,n,e,z,r⟩:=h;exact ⟨ep,xs,n,e,z,r.fresh hc⟩
 | _=>exact absurd h id
theorem Dm.ro {d:PyData} {v:V} (h:Dm K F H d v) (hi:∀ b,I b->F b) (l:(∃ ds,d=.list ds)\/∃ ds,d=.dict ds):∃ a,v=.ref a/\gn K F I H d a:=by
 rcases l with ⟨ds,rfl⟩ | ⟨ds,rfl⟩
 ·obtain ⟨a,xs,e,l,z,r⟩:=h;exact ⟨a,e,xs,l.elim (fun q=>.inl ⟨fun z=>q.1 (hi _ z),q.2⟩) .inr,z,r⟩
 ·obtain ⟨a,ep,xs,e,n,l,z,r⟩:=h;exact ⟨a,e,ep,xs,fun q=>n (hi _ q),l,z,r⟩
theorem Top.ro {d:PyData} {a:Addr} (h:Top K F H d a) (n:¬I a):gn K F I H d a:=by
 cases d with
 | list ds=>obtain ⟨xs,e,z,r⟩:=h;exact ⟨xs,.inl ⟨n,.inl e⟩,z,r⟩
 | dict ds=>obtain ⟨ep,xs,e,z,r⟩:=h;exact ⟨ep,xs,n,e,z,r⟩
 | _=>exact absurd h id
theorem Rel.ia (R:Rel K F0 H₀ I env σ H) {b:Addr} (h:IA env σ b):FF F0 env σ b:=by
 obtain ⟨i,⟨d,e | e⟩,s⟩:=h
 ·exact .inr ⟨i,d,e,s⟩
 ·obtain ⟨a,s',f,_⟩:=R.ino i d e;rw [s] at s';cases s';exact .inl f
theorem Rel.iaT (R:Rel K F0 H₀ I env σ H) {b:Addr} (h:IA env σ b):∃ o,H b=some o/\Wr o=true:=by
 obtain ⟨i,⟨d,e | e⟩,s⟩:=h
 ·obtain ⟨a,s',_,_,t⟩:=R.own i d e;rw [s] at s';cases s';exact t.wr
 ·obtain ⟨a,s',_,_,t⟩:=R.ino i d e;rw [s] at s';cases s';exact t.wr
theorem Rel.iaI (R:Rel K F0 H₀ I env σ H) {b:Addr} (h:IA env σ b):H₀ b=none\/I b:=by
 obtain ⟨i,⟨d,e | e⟩,s⟩:=h
 ·obtain ⟨a,s',_,q,t⟩:=R.own i d e;rw [s] at s';cases s';exact q
 ·obtain ⟨a,s',_,q,t⟩:=R.ino i d e;rw [s] at s';cases s';exact .inr q
theorem Rel.ft (R:Rel K F0 H₀ I env σ H) {b:Addr} (h:FF F0 env σ b):H b≠none:=by
 rcases h with h | ⟨i,d,e,s⟩
 ·exact R.dom b h
 ·obtain ⟨o,q,_⟩:=R.iaT ⟨i,⟨d,.inl e⟩,s⟩;rw [q];exact nofun
theorem Rel.qe (R:Rel K F0 H₀ I env σ H) (k:∀ b o,H b=some o->¬IA env σ b->H' b=some o):Pr (FF F0 env σ) H H':=fun b o h n=>k b o h fun q=>by
 rcases n with n | n
 ·exact n (R.ia q)
 ·obtain ⟨o',h',w⟩:=R.iaT q;rw [h] at h';cases h';rw [n] at w;cases w
theorem Rel.rebase (R:Rel K F0 H₀ I env σ H):Rel K F0 H (IA env σ) env σ H :=
 ⟨R.len,R.dat,fun i d e=>let ⟨a,s,n,_,t⟩:=R.own i d e;⟨a,s,n,.inr ⟨i,⟨d,.inl e⟩,s⟩,t⟩,fun i d e=>let ⟨a,s,n,_,t⟩:=R.ino i d e;⟨a,s,n,⟨i,⟨d,.inr e⟩,s⟩,t⟩,R.ro,R.sep,R.dom,fun _ _ h _=>h⟩
theorem Rel.oi (R:Rel K F0 H₀ I env σ H) {a:Addr} (h:H a=none\/IA env σ a):H₀ a=none\/I a:=by
 rcases h with h | h
 ·cases e:H₀ a with
  | none=>exact .inl rfl
  | some o =>
   by_cases z:I a
   ·exact .inr z
   ·have:=R.d5 a o e z;rw [h] at this;cases this
 ·exact R.iaI h
theorem Rel.bN (R:Rel K F0 H₀ I env σ H) (S:Rel K F0 H (IA env σ) env' σ' H'):Rel K F0 H₀ I env' σ' H':=by
 refine ⟨S.len,S.dat,fun i d e=>?_,fun i d e=>?_,S.ro,S.sep,S.dom,fun b o h n=>?_⟩
 ·obtain ⟨a,s,n,q,t⟩:=S.own i d e;exact ⟨a,s,n,R.oi q,t⟩
 ·obtain ⟨a,s,n,q,t⟩:=S.ino i d e;refine ⟨a,s,n,?_,t⟩;obtain ⟨j,⟨d',e' | e'⟩,s'⟩:=q
  ·obtain ⟨a',s2,n',_⟩:=R.own j d' e';rw [s'] at s2;cases s2;exact absurd n n'
  ·obtain ⟨a',s2,_,n',_⟩:=R.ino j d' e';rw [s'] at s2;cases s2;exact n'
 ·refine S.d5 b o (R.d5 b o h n) fun q=>?_;rcases R.iaI q with z | z
  ·rw [h] at z;cases z
  ·exact n z
def Evo:Sl->Sl->Prop
 | .un,s=>s=.un
 | .dat d,s=>s=.dat d
 | .own _,s=>(∃ d,s=.own d)\/(∃ d,s=.dat d)\/s=.un
 | .ino _,s=>∃ d,s=.ino d
 | .ro d,s=>s=.ro d
def KpE (env env':En):Prop:=env'.length=env.length/\∀ (i:Nat) (s:Sl),env[i]?=some s->∃ s',env'[i]?=some s'/\Evo s s'
theorem Evo.refl:∀ s,Evo s s
 | .un=>rfl
 | .dat _=>rfl
 | .own d=>.inl ⟨d,rfl⟩
 | .ino d=>⟨d,rfl⟩
 | .ro _=>rfl
theorem Evo.trans:∀ {a b c:Sl},Evo a b->Evo b c->Evo a c
 | .un,b,c,h,q=>by rw [show b=.un from h] at q;exact q
 | .dat d,b,c,h,q=>by rw [show b=.dat d from h] at q;exact q
 | .own d,b,c,h,q=>by
  rcases h with ⟨d,rfl⟩ | ⟨d,rfl⟩ | rfl
  ·exact q
  ·exact .inr (.inl ⟨d,q⟩)
  ·exact .inr (.inr q)
 | .ino d,b,c,h,q=>by obtain ⟨d,rfl⟩:=h;exact q
 | .ro d,b,c,h,q=>by rw [show b=.ro d from h] at q;exact q
theorem KpE.refl (env:En):KpE env env:=⟨rfl,fun i s e=>⟨s,e,.refl s⟩⟩
theorem KpE.trans {e1 e2 e3:En} (a:KpE e1 e2) (b:KpE e2 e3):KpE e1 e3:=⟨b.1.trans a.1,fun i s e=>by
 obtain ⟨s1,h1,v1⟩:=a.2 i s e;obtain ⟨s2,h2,v2⟩:=b.2 i s1 h1
 exact ⟨s2,h2,v1.trans v2⟩⟩
theorem KpE.back (k:KpE env env') {i:Nat} {s':Sl} (e:env'[i]?=some s'):∃ s,env[i]?=some s/\Evo s s':=by
 have hi:i < env'.length:=(IL.mp e).1;have:env[i]?=some (env[i]'(by rw [<- k.1];exact hi)):=II _;obtain ⟨s2,h2,v⟩:=k.2 i _ this;rw [e] at h2;cases h2;exact ⟨_,this,v⟩
theorem KpE.own (k:KpE env env') {i:Nat} {d:PyData} (e:env'[i]?=some (.own d)):∃ d',env[i]?=some (.own d'):=by
 obtain ⟨s,h,v⟩:=k.back e;cases s with
 | un=>cases v
 | dat _=>cases v
 | own d'=>exact ⟨d',h⟩
 | ino _=>obtain ⟨_,v⟩:=v;cases v
 | ro _=>cases v
theorem KpE.ff (k:KpE env env') {b:Addr} (h:FF F0 env' σ b):FF F0 env σ b:=by
 rcases h with h | ⟨i,d,e,s⟩
 ·exact .inl h
 ·obtain ⟨d',e'⟩:=k.own e;exact .inr ⟨i,d',e',s⟩
theorem KpE.mu (k:KpE env env') {i:Nat} (h:mu env' i):mu env i:=by
 obtain ⟨d,h | h⟩:=h
 ·obtain ⟨d',e⟩:=k.own h;exact ⟨d',.inl e⟩
 ·obtain ⟨s,h,v⟩:=k.back h;cases s with
  | un=>cases v
  | dat _=>cases v
  | own d'=>rcases v with ⟨_,v⟩ | ⟨_,v⟩ | v <;> cases v
  | ino d'=>exact ⟨d',.inr h⟩
  | ro _=>cases v
theorem KpE.ia (k:KpE env env') {b:Addr} (h:IA env' σ b):IA env σ b:=let ⟨i,m,s⟩:=h;⟨i,k.mu m,s⟩
theorem Rel.pU (R:Rel K F0 H₀ I env σ H) (S:Rel K F0 H (IA env σ) env' σ H') (k:KpE env env') {d:PyData} {v:V} (h:Dm K (FF F0 env σ) H d v):Dm K (FF F0 env' σ) H' d v :=
 h.pr (R.qe fun b o e n=>S.d5 b o e n) fun _ z=>k.ff z
theorem Rel.same (R:Rel K F0 H₀ I env σ H) (s:bf H H'):Rel K F0 H₀ I env σ H':=by
 have p:Pr (FF F0 env σ) H H':=Pr.of_same s;refine ⟨R.len,fun i d e=>?_,fun i d e=>?_,fun i d e=>?_,fun i d e=>?_,R.sep,fun b h=>?_,fun b o h n=>s _ _ (R.d5 b o h n)⟩
 ·obtain ⟨v,q,r⟩:=R.dat i d e;exact ⟨v,q,r.pr p fun _ z=>z⟩
 ·obtain ⟨a,q,n,w,t⟩:=R.own i d e;exact ⟨a,q,n,w,t.pr p (fun _ z=>z) (fun o z=>s _ _ z)⟩
 ·obtain ⟨a,q,n,w,t⟩:=R.ino i d e;exact ⟨a,q,n,w,t.pr p (fun _ z=>z) (fun o z=>s _ _ z)⟩
 ·obtain ⟨a,q,t⟩:=R.ro i d e;exact ⟨a,q,t.pr p (fun _ z=>z) (fun _ z=>z) (fun b o z _=>s _ _ z)⟩
 ·cases e:H b with
  | none=>exact absurd e (R.dom b h)
  | some o=>rw [s _ _ e];exact nofun
theorem gp {c:Addr}:FF (fun b=>F0 b\/b=c) env σ=fun b=>FF F0 env σ b\/b=c:=by
 funext b;apply propext;constructor
 ·rintro ((h | h) | h)
  ·exact .inl (.inl h)
  ·exact .inr h
  ·exact .inl (.inr h)
 ·rintro ((h | h) | h)
  ·exact .inl (.inl h)
  ·exact .inr h
  ·exact .inl (.inr h)
theorem Rel.fresh (R:Rel K F0 H₀ I env σ H) {c:Addr} (hc:H c=none) {H':Hp} (s:bf H H') (hc':H' c≠none):Rel K (fun b=>F0 b\/b=c) H₀ I env σ H':=by
 have p:Pr (fun b=>FF F0 env σ b\/b=c) H H':=Pr.of_same s;have na:∀ i a,mu env i->σ[i]?=some (some (.ref a))->a≠c:=fun i a m q z=>by
  obtain ⟨o,h,_⟩:=R.iaT ⟨i,m,q⟩;rw [z,hc] at h;cases h
 refine ⟨R.len,fun i d e=>?_,fun i d e=>?_,fun i d e=>?_,fun i d e=>?_,R.sep,fun b h=>?_,fun b o h n=>s _ _ (R.d5 b o h n)⟩
 ·obtain ⟨v,q,r⟩:=R.dat i d e;rw [gp];exact ⟨v,q,(r.fresh hc).pr p fun _ z=>z⟩
 ·obtain ⟨a,q,n,w,t⟩:=R.own i d e;rw [gp];exact ⟨a,q,fun z=>z.elim n (na i a ⟨d,.inl e⟩ q),w,(t.fresh hc).pr p (fun _ z=>z) (fun o z=>s _ _ z)⟩
 ·obtain ⟨a,q,n,w,t⟩:=R.ino i d e;rw [gp];exact ⟨a,q,.inl n,w,(t.fresh hc).pr p (fun _ z=>z) (fun o z=>s _ _ z)⟩
 ·obtain ⟨a,q,t⟩:=R.ro i d e;rw [gp];exact ⟨a,q,(t.fresh hc).pr p (fun _ z=>z) (fun _ z=>z) (fun b o z _=>s _ _ z)⟩
 ·rcases h with h | h
  ·cases e:H b with
   | none=>exact absurd e (R.dom b h)
   | some o=>rw [s _ _ e];exact nofun
  ·rw [h];exact hc'
theorem Rel.less {c:Addr} (R:Rel K (fun b=>F0 b\/b=c) H₀ I env σ H) (hi:∀ (i:Nat) (d:PyData),env[i]?=some (.ino d)->σ[i]?≠some (some (.ref c))):Rel K F0 H₀ I env σ H:=by
 have hf:∀ b,FF F0 env σ b->FF (fun b=>F0 b\/b=c) env σ b:=fun b z=>by rw [gp];exact .inl z
 refine ⟨R.len,fun i d e=>?_,fun i d e=>?_,fun i d e=>?_,fun i d e=>?_,R.sep,fun b h=>R.dom b (.inl h),R.d5⟩
 ·obtain ⟨v,q,r⟩:=R.dat i d e;exact ⟨v,q,r.mono hf⟩
 ·obtain ⟨a,q,n,w,t⟩:=R.own i d e;exact ⟨a,q,fun z=>n (.inl z),w,t.pr Pr.refl hf fun _ z=>z⟩
 ·obtain ⟨a,q,n,w,t⟩:=R.ino i d e;refine ⟨a,q,?_,w,t.pr Pr.refl hf fun _ z=>z⟩;rcases n with n | n
  ·exact n
  ·exact absurd (n▸q) (hi i d e)
 ·obtain ⟨a,q,t⟩:=R.ro i d e;exact ⟨a,q,t.pr Pr.refl hf (fun _ z=>z) fun _ _ z _=>z⟩
end
end L2
end
section
namespace L2
open PySem
def xx (K:Fg) (F:Addr->Prop) (H H':Hp):PR->V->Prop
 | .dat d,v=>Dm K F H' d v
 | .frs d,v=>∃ a,v=.ref a/\H a=none/\Top K (fun b=>F b\/b=a) H' d a
def VwL (K:Fg) (F:Addr->Prop) (H:Hp):List PyData->List V->Prop
 | [],vs=>vs=[]
 | d :: ds,vs=>∃ v r,vs=v :: r/\Vw K F H d v/\VwL K F H ds r
structure Cst where
 d:PyData
 v:V
 ok:∀ (K:Fg) (F:Addr->Prop) (H:Hp),Dm K F H d v
def Cst.i (i:Int):Cst:=⟨.int i,.int i,fun _ _ _=>rfl⟩
def Cst.s (x:Str) (h:x.length<=sizeLine) (h2:PyData.strOk x=true):Cst:=⟨.str x,.str x,fun _ _ _=>⟨rfl,h,h2⟩⟩
def Cst.b (b:Bool):Cst:=⟨.bool b,.bl b,fun _ _ _=>rfl⟩
def Cst.n:Cst:=⟨.none,.non,fun _ _ _=>rfl⟩
structure Prm where
 r:Fg->List V->Hp->VK->Prop
 f:List PyData->Option PR
 ok:∀ (K:Fg) (F:Addr->Prop) (H:Hp) (ds:List PyData) (vs:List V) (pr:PR) (Q:VK),f ds=some pr->VwL K F H ds vs->(∀ b,F b->H b≠none)->(∀ v H',bf H H'->xx K F H H' pr v->Q v H')->r K vs H Q
structure Mtd where
 T:String
 r:Fg->V->List V->Hp->VK->Prop
 ty:PyData->Bool
 f:PyData->List PyData->Option PR
 BP:∀ (K:Fg) (F:Addr->Prop) (H:Hp) (d:PyData) (v:V),ty d=true->Vw K F H d v->tyV K T v H
 ok:∀ (K:Fg) (F:Addr->Prop) (H:Hp) (d:PyData) (v:V) (ds:List PyData) (vs:List V) (pr:PR) (Q:VK),f d ds=some pr->Vw K F H d v->VwL K F H ds vs->(∀ b,F b->H b≠none)->(∀ v H',bf H H'->xx K F H H' pr v->Q v H')->r K v vs H Q
def MvL (K:Fg) (F:Addr->Prop) (H:Hp):List (Bool×PyData)->List V->Prop
 | [],vs=>vs=[]
 | (true,d) :: ds,vs=>∃ v r,vs=v :: r/\Dm K F H d v/\MvL K F H ds r
 | (false,d) :: ds,vs=>∃ v r,vs=v :: r/\Vw K F H d v/\MvL K F H ds r
structure Mtr where
 T:String
 r:Fg->V->List V->Hp->VK->Prop
 ty:PyData->Bool
 f:PyData->List (Bool×PyData)->Option (PyData×PyData)
 BP:∀ (K:Fg) (F:Addr->Prop) (H:Hp) (d:PyData) (a:Addr),ty d=true->Top K F H d a->tyV K T (.ref a) H
 ok:∀ (K:Fg) (F:Addr->Prop) (H:Hp) (d:PyData) (a:Addr) (as:List (Bool×PyData)) (vs:List V) (d' x:PyData) (Q:VK),f d as=some (d',x)->F a->Top K F H d a->MvL K F H as vs ->
  (∀ v H',(∀ b o,b≠a->H b=some o->H' b=some o)->Top K F H' d' a->Dm K F H' x v->Q v H')->r K (.ref a) vs H Q
structure xR where
 r:Fg->V->V->V->Hp->(Hp->Prop)->Prop
 f:PyData->PyData->PyData->Option PyData
 ok:∀ (K:Fg) (F:Addr->Prop) (H:Hp) (d:PyData) (a:Addr) (k x:PyData) (vk vx:V) (d':PyData) (Q:Hp->Prop),f d k x=some d'->F a->Top K F H d a->Vw K F H k vk->Dm K F H x vx ->
  (∀ H',(∀ b o,b≠a->H b=some o->H' b=some o)->Top K F H' d' a->Q H')->r K (.ref a) vk vx H Q
mutual
inductive XE where
 | var (i:Nat) | mov (i:Nat) | tke (i:Nat) | cst (c:Cst) | glb (g:Nat)
 | prm (p:Prm) (as:XA) | met (m:Mtd) (o:XE) (as:XA) | mtr (m:Mtr) (i:Nat) (as:XA) | call (f:Fn) (as:XA)
 | tup (as:XA) | lst (as:XA) | dsp (as:XP) | fst (as:XA)
 | ifx (c:XT) (a b:XE) | qp (a b:XE) | orv (a b:XE) | Ah (a:XE) | chn (p q:Prm) (a b c:XE) | sl2 (p:Int->Int->Prm) (a b c:XE)
 | cmp (js:List Nat) (it:XI) (c:XT) (e:XE) | B3 (n:List Str) (js:List Nat) (it:XI) (e:XE)
inductive XA where | nil | cons (e:XE) (r:XA)
inductive XP where | nil | cons (k e:XE) (r:XP)
inductive XT where | tst (e:XE) | tru (e:XE) | and (a b:XT) | or (a b:XT) | not (a:XT) | yes
inductive XI where | lst (e:XE) | tup (e:XE) | str (e:XE) | rng1 (as:XA) | rng2 (as:XA) | dct (e:XE) | zip (as:XA) | sq (e:XE)
end
inductive XS where
 | skip | seq (a b:XS) | fO (i:Nat) (e:XE) | ve (i:Nat) (e:XE) | C5 (is:List Nat) (e:XE) | drop (e:XE) | ret (e:XE) | DH
 | ifs (c:XT) (a b:XS) | fr (i:Nat) (it:XI) (b:XS) | frT (is:List Nat) (it:XI) (b:XS) | wh (n:Nat) (c:XT) (b:XS) | brk | cnt | nev | sto (m:xR) (i:Nat) (k e:XE)
def gNs:List Nat->TGs
 | []=>HJ
 | i :: r=>F4 (aW i) (gNs r)
def gTp (K:PySem.W.Frag) (is:List Nat):TG:=HU K is.length (gNs is)
def Ih:List TE->TE:=fun ts=>tFs ts Str.empty
def NoE:XK:=fun _ _ _=>False
def zx (K:PySem.W.Frag) (G I:Addr->Prop) (H:Hp) (d:PyData) (v:V):Prop:=match d with
 | .tuple ds=>Dm K G H (.tuple ds) v
 | d=>∃ a,v=.ref a/\gn K G I H d a
def cC (K:PySem.W.Frag) (G I:Addr->Prop) (H:Hp):List PM->List PyData->List V->List Addr->Prop
 | [],[],[],is=>is=[]
 | .dat :: ms,d :: ds,v :: vs,is=>Dm K G H d v/\cC K G I H ms ds vs is
 | .bor :: ms,d :: ds,v :: vs,is=>zx K G I H d v/\cC K G I H ms ds vs is
 | .ino :: ms,d :: ds,v :: vs,is=>∃ a r,v=.ref a/\is=a :: r/\G a/\Top K G H d a/\a ∉ r/\cC K G I H ms ds vs r
 | _,_,_,_=>False
def je (K:PySem.W.Frag) (G:Addr->Prop) (H:Hp):List PyData->List Addr->Prop
 | [],[]=>True
 | d :: ds,a :: r=>Top K G H d a/\je K G H ds r
 | _,_=>False
def GU (K:PySem.W.Frag) (G:Addr->Prop) (H H':Hp) (outs:List PyData) (is:List Addr):PR->V->Prop
 | .dat d,v=>Dm K G H' d v/\je K G H' outs is
 | .frs d,v=>∃ a,v=.ref a/\H a=none/\Top K (fun b=>G b\/b=a) H' d a/\je K (fun b=>G b\/b=a) H' outs is
def fo (f:Fn) (K:PySem.W.Frag):Sp:=fun vs H Q _=>∃ (G:Addr->Prop) (ds:List PyData) (is:List Addr) (pr:PR) (outs:List PyData),f.F ds=some (pr,outs)/\cC K G (·∈is) H f.ms ds vs is/\(∀ b,G b->H b≠none) /\
 ∀ v' H',(∀ b o,H b=some o->b ∉ is->H' b=some o)->GU K G H H' outs is pr v'->Q v' H'
section
variable (K:PySem.W.Frag) (ga:Nat->V)
mutual
def rE:XE->TE
 | .var i=>ah i | .mov i=>ah i | .tke i=>ah i | .cst c=>tC c.v | .glb g=>tC (ga g)
 | .prm p as=>tCB (p.r K) (rA as) | .met m o as=>tBM K m.T (m.r K) (rE o) (rA as) | .mtr m i as=>tBM K m.T (m.r K) (ah i) (rA as) | .call f as=>aG (fo f K) [] NoE (rA as)
 | .tup as=>rm (rA as) | .lst as=>xb (rA as) | .dsp as=>pE (rP as) | .fst as=>Ih (rF as)
 | .ifx c a b=>tIf (rT c) (rE a) (rE b) | .qp a b=>jE (rE a) (rE b) | .orv a b=>CV (rE a) (rE b) | .Ah a=>wZ (rE a)
 | .chn p q a b c=>jk (fun x y=>p.r K [x,y]) (fun x y=>q.r K [x,y]) (rE a) (rE b) (rE c)
 | .sl2 p a b c=>fun σ H Q=>rE a σ H fun x H1=>rE b σ H1 fun y H2=>∃ i,y=.int i/\rE c σ H2 fun z H3=>∃ j,z=.int j/\(p i j).r K [x] H3 Q
 | .cmp js it c e=>j4 js (rI_ it) (rT c) (rE e) | .B3 n js it e=>Bc n js (rI_ it) (gTp K (List.range n.length)) (rE e)
def rA:XA->TA
 | .nil=>aB | .cons e r=>ab (rE e) (rA r)
def rF:XA->List TE
 | .nil=>[] | .cons e r=>rE e :: rF r
def rP:XP->List (TE×TE)
 | .nil=>[] | .cons k e r=>(rE k,rE e) :: rP r
def rT:XT->TT
 | .tst e=>tB (rE e) | .tru e=>Ib K (rE e) | .and a b=>AM (rT a) (rT b) | .or a b=>tOr (rT a) (rT b) | .not a=>ql (rT a) | .yes=>xp
def rI_:XI->TI
 | .lst e=>qO K (rE e) | .tup e=>Gx K (rE e) | .str e=>DR (rE e) | .rng1 as=>ma (rA as) | .rng2 as=>E5 (rA as) | .dct e=>Iz (rE e) | .zip as=>IE K (rA as) | .sq e=>DO K (rE e)
end
def rS:XS->TS
 | .skip=>bT | .seq a b=>bL (rS a) (rS b) | .fO i e=>dW (rE K ga e) (aW i) | .ve i e=>dW (rE K ga e) (aW i) | .C5 is e=>dW (rE K ga e) (gTp K is) | .drop e=>qN (rE K ga e) | .ret e=>cI (rE K ga e) | .DH=>Gg
 | .ifs c a b=>fX (rT K ga c) (rS a) (rS b) | .fr i it b=>we (rI_ K ga it) (aW i) (rS b) | .frT is it b=>we (rI_ K ga it) (gTp K is) (rS b) | .wh n c b=>pq (rT K ga c) (rS b) | .brk=>Dh | .cnt=>FX | .nev=>p8
 | .sto m i k e=>fun D σ H=>rE K ga e σ H fun x H1=>ah i σ H1 fun o H2=>rE K ga k σ H2 fun y H3=>m.r K o y x H3 (D.nx σ)
end
def GQ:PyData->Bool
 | .none=>false | .bool b=>b | .int i=>i != 0 | .str x=>(x.length:Int) != 0 | .list ds=>!ds.isEmpty | .tuple ds=>!ds.isEmpty | .dict ds=>!ds.isEmpty
def D5:PyData->Bool | .dict _=>true | _=>false
def nO (lk:Bool):Sl->Sl
 | .own d=>if lk then .ro d else .ino d
 | .ino d=>if lk then .ro d else .ino d
 | s=>s
def fu (env:En) (lock:Option Nat) (js:List Nat):En:=js.map fun j=>nO (decide (lock=some j)) (env[j]?.getD .un)
def bp:En->List Nat->En->En
 | env,j :: js,.ino d :: es=>bp (iG env j d) js es
 | env,_ :: js,_ :: es=>bp env js es
 | env,_,_=>env
def vo (step:PyData->En->Option (Option PyData×En)):List PyData->En->Option (List PyData×En)
 | [],env=>some ([],env)
 | d :: ds,env=>match step d env with
  | some (y,e1)=>match vo step ds e1 with
   | some (ys,e2)=>some (y.toList++ys,e2)
   | none=>none
  | none=>none
def Er (env:En):PM->AV->Option PyData
 | .dat,.dat d=>some d
 | .bor,.dat (.list d)=>some (.list d)
 | .bor,.dat (.dict d)=>some (.dict d)
 | .bor,.dat (.tuple d)=>some (.tuple d)
 | .bor,.bor i=>cont env i
 | .ino,.bor i=>br env i
 | _,_=>none
def jZ (env:En):List PM->List AV->Option (List PyData)
 | [],[]=>some []
 | m :: ms,a :: as=>match Er env m a,jZ env ms as with
  | some d,some ds=>some (d :: ds)
  | _,_=>none
 | _,_=>none
def dr:List PM->List AV->List Nat
 | .ino :: ms,.bor i :: as=>i :: dr ms as
 | _ :: ms,_ :: as=>dr ms as
 | _,_=>[]
def sh:List PM->List AV->List Nat
 | .bor :: ms,.bor i :: as=>i :: sh ms as
 | _ :: ms,_ :: as=>sh ms as
 | _,_=>[]
def d4:En->List Nat->List PyData->En
 | env,i :: is,d :: ds=>d4 (iG env i d) is ds
 | env,_,_=>env
def yx:List Nat->Bool
 | []=>true
 | x :: xs=>!xs.contains x&&yx xs
def ckA (is bs:List Nat) (n:Nat):Bool:=yx is&&(bs.all (fun i=>!is.contains i)&&n==is.length)
def wH (f:Fn) (avs:List AV) (env:En):Option (RV×En) :=
 match jZ env f.ms avs with
 | none=>none
 | some ds=>match f.F ds with
  | none=>none
  | some (pr,outs)=>if ckA (dr f.ms avs) (sh f.ms avs) outs.length=true then some (pr.rv,d4 env (dr f.ms avs) outs) else none
def bG (env:En):List AV->Option (List PyData)
 | []=>some []
 | a :: as=>match a.view env,bG env as with
  | some d,some ds=>some (d :: ds)
  | _,_=>none
def AV.Fs:AV->Bool | .dat _=>true | .bor _=>false
def fH (env:En):List AV->Option (List (Bool×PyData))
 | []=>some []
 | a :: as=>match a.view env,fH env as with
  | some d,some ds=>some ((a.Fs,d) :: ds)
  | _,_=>none
def mf:List AV->Option (List PyData)
 | []=>some []
 | .dat d :: as=>match mf as with | some ds=>some (d :: ds) | none=>none
 | .bor _ :: _=>none
def Ex:List AV->Option (List Str)
 | []=>some []
 | .dat (.str x) :: as=>match Ex as with | some ds=>some (x :: ds) | none=>none
 | _ :: _=>none
def keyOf:PyData->Option Key | .int i=>some (.inl i) | .str x=>some (.inr x) | _=>none
def putD (kvs:List (PyData×PyData)) (k d:PyData):List (PyData×PyData) :=
 if (kvs.any fun kv=>PyData.eqv kv.1 k)=true then kvs.map (fun kv=>if PyData.eqv kv.1 k=true then (kv.1,d) else kv) else kvs++[(k,d)]
def getD (kvs:List (PyData×PyData)) (k:PyData):Option PyData:=(kvs.find? fun kv=>PyData.eqv kv.1 k).map (·.2)
def cu (env:En):Option Nat->En
 | some i=>match env[i]? with | some (.own d)=>env.set i (.ro d) | some (.ino d)=>env.set i (.ro d) | _=>env
 | none=>env
def aM (Ej:En) (lock:Option Nat) (env:En):En:=match lock with
 | some i=>match Ej[i]?,env[i]? with
  | some (.own _),some (.ro d)=>env.set i (.own d)
  | some (.ino _),some (.ro d)=>env.set i (.ino d)
  | _,_=>env
 | none=>env
def jr (t:En->Option (Bool×En)) (b:En->Option (RV×En)) (d:PyData) (ec:En):Option (Option PyData×En):=match t (.dat d :: ec) with
 | some (true,e2)=>match b e2 with
  | some (rv,e3)=>match rv.av with | .dat y=>some (some y,e3.tail) | .bor _=>none
  | none=>none
 | some (false,e2)=>some (none,e2.tail)
 | none=>none
def lF (n:Nat) (b:En->Option (RV×En)) (d:PyData) (ec:En):Option (Option PyData×En):=match d with
 | .tuple xs=>if xs.length=n then match b (xs.map .dat++ec) with
   | some (rv,e3)=>match rv.av with | .dat y=>some (some y,e3.drop n) | .bor _=>none
   | none=>none
  else none
 | _=>none
def roL (e:En):AV->Option (List PyData)
 | .dat (.list xs)=>some xs
 | .bor i=>match e[i]? with | some (.ro (.list xs))=>some xs | _=>none
 | _=>none
mutual
def dE (gd:List PyData):XE->En->Option (RV×En)
 | .var i,env=>match env[i]? with | some (.dat d)=>some (.dat d,env) | some (.own _)=>some (.bor i,env) | some (.ino _)=>some (.bor i,env) | some (.ro _)=>some (.bor i,env) | _=>none
 | .mov i,env=>match env[i]? with | some (.own d)=>some (.dat d,env.set i (.dat d)) | _=>none
 | .tke i,env=>match env[i]? with | some (.own d)=>some (.frs d,env.set i .un) | _=>none
 | .cst c,env=>some (.dat c.d,env)
 | .glb g,env=>match gd[g]? with | some d=>some (.dat d,env) | none=>none
 | .prm p as,env=>match dA gd as env with
  | some (avs,e1)=>match bG e1 avs with
   | some ds=>match p.f ds with | some pr=>some (pr.rv,e1) | none=>none
   | none=>none
  | none=>none
 | .met m o as,env=>match dE gd o env with
  | some (rv,e1)=>match rv.view e1 with
   | some d0=>if m.ty d0=true then match dA gd as e1 with
     | some (avs,e2)=>match rv.view e2,bG e2 avs with
      | some d,some ds=>match m.f d ds with | some pr=>some (pr.rv,e2) | none=>none
      | _,_=>none
     | none=>none
    else none
   | none=>none
  | none=>none
 | .mtr m i as,env=>match br env i with
  | some d0=>if m.ty d0=true then match dA gd as env with
    | some (avs,e1)=>match br e1 i,fH e1 avs with
     | some d,some ds=>match m.f d ds with | some (d',x)=>some (.dat x,iG e1 i d') | none=>none
     | _,_=>none
    | none=>none
   else none
  | none=>none
 | .call f as,env=>match dA gd as env with
  | some (avs,e1)=>wH f avs e1
  | none=>none
 | .tup as,env=>match dA gd as env with
  | some (avs,e1)=>match mf avs with | some ds=>if ds.length<=sizeLine then some (.dat (.tuple ds),e1) else none | none=>none
  | none=>none
 | .lst as,env=>match dA gd as env with
  | some (avs,e1)=>match mf avs with | some ds=>if ds.length<=sizeLine then some (.frs (.list ds),e1) else none | none=>none
  | none=>none
 | .dsp as,env=>match dP gd as env with
  | some (kvs,e1)=>if kvs.length<=15 then some (.frs (.dict (kvs.foldl (fun acc kv=>putD acc (kD kv.1) kv.2) [])),e1) else none
  | none=>none
 | .fst as,env=>match dF gd as Str.empty env with
  | some (x,e1)=>some (.dat (.str x),e1)
  | none=>none
 | .ifx c a b,env=>match dT gd c env with
  | some (true,e1)=>dE gd a e1
  | some (false,e1)=>dE gd b e1
  | none=>none
 | .qp a b,env=>match dE gd a env with
  | some (.dat (.bool true),e1)=>dE gd b e1
  | some (.dat (.bool false),e1)=>some (.dat (.bool false),e1)
  | _=>none
 | .orv a b,env=>match dE gd a env with
  | some (.dat (.bool true),e1)=>some (.dat (.bool true),e1)
  | some (.dat (.bool false),e1)=>dE gd b e1
  | _=>none
 | .Ah a,env=>match dE gd a env with
  | some (.dat (.bool x),e1)=>some (.dat (.bool (!x)),e1)
  | _=>none
 | .chn p q a b c,env=>match dE gd a env with
  | some (ra,e1)=>match dE gd b e1 with
   | some (rb,e2)=>match ra.av,rb.av with
    | .dat x,.dat y=>match p.f [x,y] with
     | some (.dat (.bool true))=>match dE gd c e2 with
      | some (rc,e3)=>match rc.av with
       | .dat z=>match q.f [y,z] with | some pr=>some (pr.rv,e3) | none=>none
       | _=>none
      | none=>none
     | some (.dat (.bool false))=>some (.dat (.bool false),e2)
     | _=>none
    | _,_=>none
   | none=>none
  | none=>none
 | .sl2 p a b c,env=>match dE gd a env with
  | some (ra,e1)=>match dE gd b e1 with
   | some (.dat (.int i),e2)=>match dE gd c e2 with
    | some (.dat (.int j),e3)=>match ra.view e3 with
     | some d=>match (p i j).f [d] with | some pr=>some (pr.rv,e3) | none=>none
     | none=>none
    | _=>none
   | _=>none
  | none=>none
 | .cmp js it c e,env=>match dI gd it env with
  | some (ds,lock,e1)=>if js.Nodup then match vo (jr (dT gd c) (dE gd e)) ds (fu e1 lock js) with
    | some (ys,ec)=>some (.frs (.list ys),bp e1 js ec)
    | none=>none
   else none
  | none=>none
 | .B3 n js it e,env=>match dI gd it env with
  | some (ds,lock,e1)=>if js.Nodup then match vo (lF n.length (dE gd e)) ds (fu e1 lock js) with
    | some (ys,ec)=>some (.frs (.list ys),bp e1 js ec)
    | none=>none
   else none
  | none=>none
def dA (gd:List PyData):XA->En->Option (List AV×En)
 | .nil,env=>some ([],env)
 | .cons e r,env=>match dE gd e env with
  | some (rv,e1)=>match dA gd r e1 with
   | some (avs,e2)=>some (rv.av :: avs,e2)
   | none=>none
  | none=>none
def dF (gd:List PyData):XA->Str->En->Option (Str×En)
 | .nil,out,env=>if out.length<=sizeLine then some (out,env) else none
 | .cons e r,out,env=>match dE gd e env with
  | some (.dat (.str x),e1)=>if (out++x).length<=sizeLine then dF gd r (out++x) e1 else none
  | _=>none
def dP (gd:List PyData):XP->En->Option (List (Key×PyData)×En)
 | .nil,env=>some ([],env)
 | .cons k e r,env=>match dE gd k env with
  | some (rk,e1)=>match dE gd e e1 with
   | some (rv,e2)=>match dP gd r e2 with
    | some (kvs,e3)=>match rk.av,rv.av with
     | .dat dk,.dat d=>match keyOf dk with | some k=>some ((k,d) :: kvs,e3) | none=>none
     | _,_=>none
    | none=>none
   | none=>none
  | none=>none
def dT (gd:List PyData):XT->En->Option (Bool×En)
 | .tst e,env=>match dE gd e env with | some (.dat (.bool b),e1)=>some (b,e1) | _=>none
 | .tru e,env=>match dE gd e env with
  | some (rv,e1)=>match rv.view e1 with | some d=>if D5 d=true then none else some (GQ d,e1) | none=>none
  | none=>none
 | .and a b,env=>match dT gd a env with | some (true,e1)=>dT gd b e1 | some (false,e1)=>some (false,e1) | none=>none
 | .or a b,env=>match dT gd a env with | some (true,e1)=>some (true,e1) | some (false,e1)=>dT gd b e1 | none=>none
 | .not a,env=>match dT gd a env with | some (b,e1)=>some (!b,e1) | none=>none
 | .yes,env=>some (true,env)
def dI (gd:List PyData):XI->En->Option (List PyData×Option Nat×En)
 | .lst e,env=>match dE gd e env with
  | some (rv,e1)=>match rv.av with
   | .dat (.list ds)=>some (ds,none,e1)
   | .dat _=>none
   | .bor i=>match cont e1 i with | some (.list ds)=>some (ds,some i,e1) | _=>none
  | none=>none
 | .dct e,env=>match dE gd e env with
  | some (rv,e1)=>match rv.av with
   | .dat (.dict kvs)=>some (kvs.map (·.1),none,e1)
   | .dat _=>none
   | .bor i=>match cont e1 i with | some (.dict kvs)=>some (kvs.map (·.1),some i,e1) | _=>none
  | none=>none
 | .tup e,env=>match dE gd e env with
  | some (rv,e1)=>match rv.av with | .dat (.tuple ds)=>some (ds,none,e1) | _=>none
  | none=>none
 | .sq e,env=>match dE gd e env with
  | some (rv,e1)=>match rv.av with
   | .dat (.list ds)=>some (ds,none,e1)
   | .dat (.tuple ds)=>some (ds,none,e1)
   | .dat _=>none
   | .bor i=>match cont e1 i with | some (.list ds)=>some (ds,some i,e1) | _=>none
  | none=>none
 | .str e,env=>match dE gd e env with
  | some (rv,e1)=>match rv.av with | .dat (.str x)=>some (x.cps.toList.map fun c=>.str ⟨#[c]⟩,none,e1) | _=>none
  | none=>none
 | .rng1 as,env=>match dA gd as env with
  | some (avs,e1)=>match avs with | [.dat (.int j)]=>if -(2 ^ 62)<=j/\j<=2 ^ 24 then some ((List.range j.toNat).map fun (k:Nat)=>.int ((0:Int)+(k:Int)),none,e1) else none | _=>none
  | none=>none
 | .zip as,env=>match dA gd as env with
  | some (avs,e1)=>match avs with
   | [x,y]=>match roL e1 x,roL e1 y with | some xs,some ys=>some ((xs.zip ys).map fun p=>.tuple [p.1,p.2],none,e1) | _,_=>none
   | _=>none
  | none=>none
 | .rng2 as,env=>match dA gd as env with
  | some (avs,e1)=>match avs with | [.dat (.int i),.dat (.int j)]=>if -(2 ^ 62)<=i/\i < 2 ^ 62/\-(2 ^ 62)<=j/\j < 2 ^ 62/\j - i<=2 ^ 24 then some ((List.range (j - i).toNat).map fun (k:Nat)=>.int (i+(k:Int)),none,e1) else none | _=>none
  | none=>none
end
def lkd (env:En):Option Nat->Bool
 | some i=>match env[i]? with | some (.own _)=>true | some (.ino _)=>true | _=>false
 | none=>false
def RV.soft (b:Bool):RV->RV | .frs d=>if b then .dat d else .frs d | r=>r
inductive Out where | nx (env:En) | rt (rv:RV) (env:En) | bk (env:En) | ct (env:En)
def Out.map (b:Bool) (f:En->En):Out->Out | .nx e=>.nx (f e) | .rt r e=>.rt (r.soft b) (f e) | .bk e=>.bk (f e) | .ct e=>.ct (f e)
def forL (b:PyData->En->Option Out):List PyData->En->Option Out
 | [],env=>some (.nx env)
 | d :: ds,env=>match b d env with
  | some (.nx e)=>forL b ds e
  | some (.ct e)=>forL b ds e
  | some (.bk e)=>some (.nx e)
  | some (.rt r e)=>some (.rt r e)
  | none=>none
def whL (t:En->Option (Bool×En)) (b:En->Option Out):Nat->En->Option Out
 | 0,_=>none
 | n+1,env=>match t env with
  | some (true,e1)=>match b e1 with
   | some (.nx e)=>whL t b n e
   | some (.ct e)=>whL t b n e
   | some (.bk e)=>some (.nx e)
   | some (.rt r e)=>some (.rt r e)
   | none=>none
  | some (false,e1)=>some (.nx e1)
  | none=>none
def free (env:En) (i:Nat):Bool:=match env[i]? with | some .un=>true | some (.dat _)=>true | some (.own _)=>true | _=>false
def fU:En->List Nat->List PyData->Option En
 | env,[],[]=>some env
 | env,i :: is,d :: ds=>if free env i=true then fU (env.set i (.dat d)) is ds else none
 | _,_,_=>none
def ka (i:Nat) (b:En->Option Out) (d:PyData) (e:En):Option Out:=if free e i=true then b (e.set i (.dat d)) else none
def jq (is:List Nat) (b:En->Option Out) (d:PyData) (e:En):Option Out:=match d with
 | .tuple xs=>match fU e is xs with | some e2=>b e2 | none=>none
 | _=>none
def dS (gd:List PyData):XS->En->Option Out
 | .skip,env=>some (.nx env)
 | .seq a b,env=>match dS gd a env with
  | some (.nx e)=>dS gd b e
  | o=>o
 | .fO i e,env=>match dE gd e env with
  | some (rv,e1)=>match rv.av with | .dat d=>if free e1 i=true then some (.nx (e1.set i (.dat d))) else none | .bor _=>none
  | none=>none
 | .ve i e,env=>match dE gd e env with
  | some (.frs d,e1)=>if free e1 i=true then some (.nx (e1.set i (.own d))) else none
  | _=>none
 | .C5 is e,env=>match dE gd e env with
  | some (rv,e1)=>match rv.av with
   | .dat (.tuple ds)=>match fU e1 is ds with | some e2=>some (.nx e2) | none=>none
   | _=>none
  | none=>none
 | .drop e,env=>match dE gd e env with | some (_,e1)=>some (.nx e1) | none=>none
 | .ret e,env=>match dE gd e env with | some (rv,e1)=>some (.rt rv e1) | none=>none
 | .DH,env=>some (.rt (.dat .none) env)
 | .ifs c a b,env=>match dT gd c env with
  | some (true,e1)=>dS gd a e1
  | some (false,e1)=>dS gd b e1
  | none=>none
 | .fr i it b,env=>match dI gd it env with
  | some (ds,lock,e1)=>(forL (ka i (dS gd b)) ds (cu e1 lock)).map (Out.map (lkd e1 lock) (aM e1 lock))
  | none=>none
 | .frT is it b,env=>match dI gd it env with
  | some (ds,lock,e1)=>(forL (jq is (dS gd b)) ds (cu e1 lock)).map (Out.map (lkd e1 lock) (aM e1 lock))
  | none=>none
 | .wh n c b,env=>whL (dT gd c) (dS gd b) n env
 | .brk,env=>some (.bk env)
 | .cnt,env=>some (.ct env)
 | .nev,_=>none
 | .sto m i k e,env=>match dE gd e env with
  | some (rv,e1)=>match rv.av with
   | .dat x=>match br e1 i with
    | some _=>match dE gd k e1 with
     | some (rk,e2)=>match rk.view e2,br e2 i with
      | some dk,some d=>match m.f d dk x with | some d'=>some (.nx (iG e2 i d')) | none=>none
      | _,_=>none
     | none=>none
    | none=>none
   | .bor _=>none
  | none=>none
def zH:PyData->Sl | .tuple ds=>.dat (.tuple ds) | d=>.ro d
def ax:List PM->List PyData->Nat->En
 | .dat :: ms,d :: ds,n=>.dat d :: ax ms ds (n - 1)
 | .bor :: ms,d :: ds,n=>zH d :: ax ms ds (n - 1)
 | .ino :: ms,d :: ds,n=>.ino d :: ax ms ds (n - 1)
 | _,_,n=>List.replicate n .un
def i8:List PM->En->Option (List PyData)
 | .ino :: ms,.ino d :: es=>match i8 ms es with | some ds=>some (d :: ds) | none=>none
 | .ino :: _,_=>none
 | _ :: ms,_ :: es=>i8 ms es
 | _,_=>some []
def RV.pr:RV->Option PR | .dat d=>some (.dat d) | .frs d=>some (.frs d) | .bor _=>none
def gc (gd:List PyData) (ms:List PM) (n:Nat) (b:XS):Fn where
 ms:=ms
 F:=fun ds=>if ds.length=ms.length then match dS gd b (ax ms ds n) with
   | some (.rt rv env)=>match rv.pr,i8 ms env with | some pr,some outs=>some (pr,outs) | _,_=>none
   | some (.nx env)=>match i8 ms env with | some outs=>some (.dat .none,outs) | none=>none
   | _=>none
  else none
end L2
end
section
namespace L2
open PySem
theorem bf.rf (H:Hp):bf H H:=fun _ _ h=>h
theorem bf.nw {H:Hp} {a:Addr} (o:HO) (h:H a=none):bf H (upd H a o):=fun b u q=>by rw [ay (bh q h)];exact q
section
variable {K:Fg} {F F' I I' F0:Addr->Prop} {H H' H₀:Hp} {env env':En} {σ σ':St} {ga:Nat->V} {gd:List PyData}
def fk (K:Fg) (F0:Addr->Prop) (H₀:Hp) (I:Addr->Prop) (env:En) (σ:St) (H:Hp):RV->V->Prop
 | .dat d,v=>Dm K (FF F0 env σ) H d v
 | .bor i,v=>σ[i]?=some (some v)
 | .frs d,v=>∃ a,v=.ref a/\Rel K (fun b=>F0 b\/b=a) H₀ I env σ H/\Top K (fun b=>FF F0 env σ b\/b=a) H d a/\(H₀ a=none\/I a)/\¬FF F0 env σ a/\(∀ (i:Nat) (d':PyData),env[i]?=some (.ino d')->σ[i]?≠some (some (.ref a))) /\
   ∀ (i:Nat) (d':PyData),env[i]?=some (.ro d')->∃ b,σ[i]?=some (some (.ref b))/\gn K (fun b=>FF F0 env σ b\/b=a) (fun b=>IA env σ b\/b=a) H d' b
def xV (K:Fg) (F0:Addr->Prop) (env:En) (σ:St) (H:Hp):AV->V->Prop
 | .dat d,v=>Dm K (FF F0 env σ) H d v
 | .bor i,v=>σ[i]?=some (some v)
def iF (K:Fg) (F0:Addr->Prop) (env:En) (σ:St) (H:Hp):List AV->List V->Prop
 | [],vs=>vs=[]
 | a :: as,vs=>∃ v r,vs=v :: r/\xV K F0 env σ H a v/\iF K F0 env σ H as r
theorem fk.av {rv:RV} {v:V} (h:fk K F0 H₀ I env σ H rv v):xV K F0 env σ H rv.av v:=by
 cases rv with
 | dat d=>exact h
 | bor i=>exact h
 | frs d =>
  obtain ⟨a,e,R,t,_,n,_⟩:=h;subst e;exact (t.pr Pr.refl (F':=FF F0 env σ) (fun _ z=>.inl z) (fun _ z=>z)).dm n
theorem xV.keep (R:Rel K F0 H₀ I env σ H) (S:Rel K F0 H (IA env σ) env' σ H') (k:KpE env env') {a:AV} {v:V} (h:xV K F0 env σ H a v):xV K F0 env' σ H' a v:=by
 cases a with
 | dat d=>exact R.pU S k h
 | bor i=>exact h
theorem Rel.EJ (R:Rel K F0 H₀ I env σ H) {i:Nat} {d:PyData} {v:V} (h:cont env i=some d) (s:σ[i]?=some (some v)):Vw K (FF F0 env σ) H d v:=by
 unfold cont at h;cases e:env[i]? with
 | none=>rw [e] at h;cases h
 | some sl =>
  rw [e] at h;cases sl with
  | un=>cases h
  | dat _=>cases h
  | own d' =>
   cases h;obtain ⟨a,q,_,_,t⟩:=R.own i d e;rw [s] at q;cases q;exact t.r.vw
  | ino d' =>
   cases h;obtain ⟨a,q,_,_,t⟩:=R.ino i d e;rw [s] at q;cases q;exact t.r.vw
  | ro d' =>
   cases h;obtain ⟨a,q,t⟩:=R.ro i d e;rw [s] at q;cases q;exact t.r.vw
theorem Rel.dX (R:Rel K F0 H₀ I env σ H) {i:Nat} {d:PyData} (h:br env i=some d):mu env i/\∃ a,σ[i]?=some (some (.ref a))/\FF F0 env σ a/\Top K (FF F0 env σ) H d a:=by
 unfold br at h;cases e:env[i]? with
 | none=>rw [e] at h;cases h
 | some sl =>
  rw [e] at h;cases sl with
  | un=>cases h
  | dat _=>cases h
  | own d' =>
   cases h;obtain ⟨a,q,_,_,t⟩:=R.own i d e;exact ⟨⟨d,.inl e⟩,a,q,.inr ⟨i,d,e,q⟩,t⟩
  | ino d' =>
   cases h;obtain ⟨a,q,f,_,t⟩:=R.ino i d e;exact ⟨⟨d,.inr e⟩,a,q,.inl f,t⟩
  | ro d'=>cases h
theorem xV.vw (R:Rel K F0 H₀ I env σ H) {a:AV} {v:V} {d:PyData} (h:xV K F0 env σ H a v) (e:a.view env=some d):Vw K (FF F0 env σ) H d v:=by
 cases a with
 | dat d'=>cases e;exact Dm.vw h
 | bor i=>exact R.EJ e h
theorem iF.vw (R:Rel K F0 H₀ I env σ H):∀ {as:List AV} {vs:List V} {ds:List PyData},iF K F0 env σ H as vs->bG env as=some ds->VwL K (FF F0 env σ) H ds vs
 | [],_,ds,h,e=>by cases e;exact h
 | a :: as,_,ds,h,e=>by
  obtain ⟨v,r,rfl,h1,h2⟩:=h;unfold bG at e;cases e1:a.view env with
  | none=>rw [e1] at e;cases e
  | some d =>
   cases e2:bG env as with
   | none=>rw [e1,e2] at e;cases e
   | some ds' =>
    rw [e1,e2] at e;cases e;exact ⟨v,r,rfl,h1.vw R e1,iF.vw R h2 e2⟩
theorem iF.mv (R:Rel K F0 H₀ I env σ H):∀ {as:List AV} {vs:List V} {ds:List (Bool×PyData)},iF K F0 env σ H as vs->fH env as=some ds->MvL K (FF F0 env σ) H ds vs
 | [],_,ds,h,e=>by cases e;exact h
 | a :: as,_,ds,h,e=>by
  obtain ⟨v,r,rfl,h1,h2⟩:=h;unfold fH at e;cases e1:a.view env with
  | none=>rw [e1] at e;cases e
  | some d =>
   cases e2:fH env as with
   | none=>rw [e1,e2] at e;cases e
   | some ds' =>
    rw [e1,e2] at e;cases e;have ih:=iF.mv R h2 e2;cases a with
    | dat d'=>cases e1;exact ⟨v,r,rfl,h1,ih⟩
    | bor i=>exact ⟨v,r,rfl,h1.vw R e1,ih⟩
theorem iF.Ga:∀ {as:List AV} {vs:List V} {ds:List PyData},iF K F0 env σ H as vs->mf as=some ds->DmL K (FF F0 env σ) H ds vs
 | [],_,ds,h,e=>by cases e;exact h
 | .dat d :: as,_,ds,h,e=>by
  obtain ⟨v,r,rfl,h1,h2⟩:=h;unfold mf at e;cases e2:mf as with
  | none=>rw [e2] at e;cases e
  | some ds' =>
   rw [e2] at e;cases e;exact ⟨v,r,rfl,h1,iF.Ga h2 e2⟩
 | .bor i :: as,_,ds,h,e=>by unfold mf at e;cases e
theorem gn.xD {d:PyData} {a c:Addr} (hc:H c=none) (h:gn K F I H d a):gn K F (fun b=>I b\/b=c) H d a:=by
 cases d with
 | list ds=>obtain ⟨xs,e,z,r⟩:=h;exact ⟨xs,e.fresh hc,z,r⟩
 | dict ds =>
  obtain ⟨ep,xs,n,e,z,r⟩:=h;exact ⟨ep,xs,fun q=>q.elim n fun q=>(by subst q;rw [hc] at e;cases e),e,z,r⟩
 | _=>exact absurd h id
theorem Rel.mJ (R:Rel K F0 H₀ I env σ H) (s:bf H H') {pr:PR} {v:V} (h:xx K (FF F0 env σ) H H' pr v):fk K F0 H₀ I env σ H' pr.rv v:=by
 cases pr with
 | dat d=>exact h
 | frs d =>
  obtain ⟨a,e,hn,t⟩:=h;refine ⟨a,e,R.fresh hn s ?_,t,R.oi (.inl hn),fun z=>R.ft z hn,fun i d' e' q=>?_,fun i d' e'=>?_⟩
  ·obtain ⟨o,q,_⟩:=t.wr;rw [q];exact nofun
  ·obtain ⟨o,z,_⟩:=R.iaT ⟨i,⟨d',.inr e'⟩,q⟩;rw [hn] at z;cases z
  ·obtain ⟨b,q,t'⟩:=R.ro i d' e';exact ⟨b,q,((t'.fresh hn).xD hn).pr (Pr.of_same s) (fun _ z=>z) (fun _ z=>z) fun b o z _=>s _ _ z⟩
theorem vh (env:En) (i:Nat) (d:PyData):KpE env (iG env i d):=by
 unfold iG;cases e:env[i]? with
 | none=>exact KpE.refl _
 | some sl =>
  have hi:i < env.length:=(IL.mp e).1;cases sl with
  | un=>exact KpE.refl _
  | dat _=>exact KpE.refl _
  | ro _=>exact KpE.refl _
  | own d' =>
   refine ⟨Jy,fun j s h=>?_⟩;by_cases z:i=j
   ·subst z;rw [e] at h;cases h;exact ⟨.own d,by rw [Jc hi],.inl ⟨d,rfl⟩⟩
   ·exact ⟨s,by rw [IM z];exact h,.refl s⟩
  | ino d' =>
   refine ⟨Jy,fun j s h=>?_⟩;by_cases z:i=j
   ·subst z;rw [e] at h;cases h;exact ⟨.ino d,by rw [Jc hi],⟨d,rfl⟩⟩
   ·exact ⟨s,by rw [IM z];exact h,.refl s⟩
def SmK (env env':En):Prop:=env'.length=env.length/\∀ i:Nat,env'[i]?=env[i]?\/(∃ d d',env[i]?=some (.own d)/\env'[i]?=some (.own d'))\/∃ d d',env[i]?=some (.ino d)/\env'[i]?=some (.ino d')
theorem SmK.refl (env:En):SmK env env:=⟨rfl,fun _=>.inl rfl⟩
theorem SmK.trans {e1 e2 e3:En} (a:SmK e1 e2) (b:SmK e2 e3):SmK e1 e3:=⟨b.1.trans a.1,fun i=>by
 rcases b.2 i with h | ⟨d,d',h,h'⟩ | ⟨d,d',h,h'⟩
 ·rw [h];exact a.2 i
 ·rcases a.2 i with q | ⟨c,c',q,q'⟩ | ⟨c,c',q,q'⟩
  ·exact .inr (.inl ⟨d,d',by rw [<- q];exact h,h'⟩)
  ·exact .inr (.inl ⟨c,d',q,h'⟩)
  ·rw [h] at q';cases q'
 ·rcases a.2 i with q | ⟨c,c',q,q'⟩ | ⟨c,c',q,q'⟩
  ·exact .inr (.inr ⟨d,d',by rw [<- q];exact h,h'⟩)
  ·rw [h] at q';cases q'
  ·exact .inr (.inr ⟨c,d',q,h'⟩)⟩
theorem SmK.kp (k:SmK env env'):KpE env env':=⟨k.1,fun i s e=>by
 rcases k.2 i with h | ⟨d,d',h,h'⟩ | ⟨d,d',h,h'⟩
 ·exact ⟨s,by rw [h];exact e,.refl s⟩
 ·rw [e] at h;cases h;exact ⟨_,h',.inl ⟨d',rfl⟩⟩
 ·rw [e] at h;cases h;exact ⟨_,h',⟨d',rfl⟩⟩⟩
theorem SmK.symm (k:SmK env env'):SmK env' env:=⟨k.1.symm,fun i=>by
 rcases k.2 i with h | ⟨d,d',h,h'⟩ | ⟨d,d',h,h'⟩
 ·exact .inl h.symm
 ·exact .inr (.inl ⟨d',d,h',h⟩)
 ·exact .inr (.inr ⟨d',d,h',h⟩)⟩
theorem SmK.ff (k:SmK env env'):FF F0 env' σ=FF F0 env σ:=by
 funext b;exact propext ⟨fun h=>k.kp.ff h,fun h=>k.symm.kp.ff h⟩
theorem SmK.ia (k:SmK env env'):IA env' σ=IA env σ:=by
 funext b;exact propext ⟨fun h=>k.kp.ia h,fun h=>k.symm.kp.ia h⟩
theorem fc (env:En) (i:Nat) (d:PyData):SmK env (iG env i d):=by
 unfold iG;cases e:env[i]? with
 | none=>exact SmK.refl _
 | some sl =>
  have hi:i < env.length:=(IL.mp e).1;cases sl with
  | un=>exact SmK.refl _
  | dat _=>exact SmK.refl _
  | ro _=>exact SmK.refl _
  | own d' =>
   refine ⟨Jy,fun j=>?_⟩;by_cases z:i=j
   ·subst z;exact .inr (.inl ⟨d',d,e,by rw [Jc hi]⟩)
   ·exact .inl (by rw [IM z])
  | ino d' =>
   refine ⟨Jy,fun j=>?_⟩;by_cases z:i=j
   ·subst z;exact .inr (.inr ⟨d',d,e,by rw [Jc hi]⟩)
   ·exact .inl (by rw [IM z])
theorem kK {env:En} {i:Nat} {d:PyData} (h:mu env i):br (iG env i d) i=some d:=by
 unfold iG br;obtain ⟨d',e | e⟩:=h
 ·have hi:i < env.length:=(IL.mp e).1;rw [e];simp only;rw [Jc hi]
 ·have hi:i < env.length:=(IL.mp e).1;rw [e];simp only;rw [Jc hi]
theorem lN {env:En} {i j:Nat} {d:PyData} (h:j≠i):(iG env i d)[j]?=env[j]?:=by
 unfold iG;split <;> first | rfl | rw [IM (Ne.symm h)]
theorem pL {env:En} {i:Nat} {d:PyData} (h:br env i=some d):env[i]?=some (.own d)\/env[i]?=some (.ino d):=by
 unfold br at h;split at h
 ·rename_i e;cases h;exact .inl e
 ·rename_i e;cases h;exact .inr e
 ·cases h
theorem Rel.chg (R:Rel K F0 H₀ I env σ H) (k:SmK env env') (hk:∀ b o,H b=some o->¬IA env σ b->H' b=some o) (ht:∀ i d a,br env' i=some d->σ[i]?=some (some (.ref a))->Top K (FF F0 env σ) H' d a):Rel K F0 H₀ I env' σ H':=by
 have p:=R.qe hk;have eF:=k.ff (F0:=F0) (σ:=σ);have eI:=k.ia (σ:=σ);have mc:∀ {i:Nat} {d:PyData},env'[i]?=some (.own d)\/env'[i]?=some (.ino d)->br env' i=some d:=fun {i d} h=>by
  unfold br;rcases h with h | h <;> rw [h]
 refine ⟨k.1.trans R.len,fun i d e=>?_,fun i d e=>?_,fun i d e=>?_,fun i d e=>?_,fun i j a h1 h2 h3 h4=>R.sep i j a (k.kp.mu h1) (k.kp.mu h2) h3 h4,fun b h=>?_,fun b o h n=>?_⟩
 ·rcases k.2 i with q | ⟨c,c',q,q'⟩ | ⟨c,c',q,q'⟩
  ·rw [e] at q;obtain ⟨v,s,r⟩:=R.dat i d q.symm;rw [eF];exact ⟨v,s,r.pr p fun _ z=>z⟩
  ·rw [e] at q';cases q'
  ·rw [e] at q';cases q'
 ·have hm:=mc (.inl e);obtain ⟨d0,e0⟩:=k.kp.own e;obtain ⟨a,s,n,w,_⟩:=R.own i d0 e0;rw [eF];exact ⟨a,s,n,w,ht i d a hm s⟩
 ·have hm:=mc (.inr e);have:∃ d0,env[i]?=some (.ino d0):=by
   rcases k.2 i with q | ⟨c,c',q,q'⟩ | ⟨c,c',q,q'⟩
   ·exact ⟨d,by rw [<- q];exact e⟩
   ·rw [e] at q';cases q'
   ·exact ⟨c,q⟩
  obtain ⟨d0,e0⟩:=this;obtain ⟨a,s,n,w,_⟩:=R.ino i d0 e0;rw [eF];exact ⟨a,s,n,w,ht i d a hm s⟩
 ·have e0:env[i]?=some (.ro d):=by
   rcases k.2 i with q | ⟨c,c',q,q'⟩ | ⟨c,c',q,q'⟩
   ·rw [<- q];exact e
   ·rw [e] at q';cases q'
   ·rw [e] at q';cases q'
  obtain ⟨a,s,t⟩:=R.ro i d e0;rw [eF,eI];exact ⟨a,s,t.pr p (fun _ z=>z) (fun _ z=>z) hk⟩
 ·by_cases z:IA env σ b
  ·obtain ⟨i,m,s⟩:=z;have m':=k.symm.kp.mu m;obtain ⟨d,m'⟩:=m';obtain ⟨o,q,_⟩:=(ht i d b (mc m') s).wr;rw [q];exact nofun
  ·cases e:H b with
   | none=>exact absurd e (R.dom b h)
   | some o=>rw [hk b o e z];exact nofun
 ·refine hk b o (R.d5 b o h n) fun z=>?_;rcases R.iaI z with q | q
  ·rw [h] at q;cases q
  ·exact n q
end
end L2
end
section
namespace L2
open PySem
section
variable {K:Fg} {F F' I I' F0:Addr->Prop} {H H' H₀:Hp} {env env':En} {σ σ':St} {ga:Nat->V} {gd:List PyData}
theorem get_set {α:Type} {l:List α} {i j:Nat} {x y:α} (h:(l.set i x)[j]?=some y):(i=j/\x=y)\/(i≠j/\l[j]?=some y):=by
 by_cases z:i=j
 ·subst z;by_cases hi:i < l.length
  ·rw [Jc hi] at h;exact .inl ⟨rfl,J1 h⟩
  ·rw [List.getElem?_eq_none (by rw [Jy];omega)] at h;cases h
 ·rw [IM z] at h;exact .inr ⟨z,h⟩
theorem Rel.sub (R:Rel K F0 H₀ I env σ H) (i:Nat) (x:Option V):(∀ b,FF F0 (env.set i .un) (σ.set i x) b->FF F0 env σ b)/\(∀ b,IA (env.set i .un) (σ.set i x) b->IA env σ b):=by
 constructor
 ·rintro b (h | ⟨j,d,e,s⟩)
  ·exact .inl h
  ·rcases get_set e with ⟨_,z⟩ | ⟨n,e⟩
   ·cases z
   ·rw [IM n] at s;exact .inr ⟨j,d,e,s⟩
 ·rintro b ⟨j,⟨d,e⟩,s⟩;have:∃ d,(env[j]?=some (.own d)\/env[j]?=some (.ino d))/\i≠j:=by
   rcases e with e | e
   ·rcases get_set e with ⟨_,z⟩ | ⟨n,e⟩
    ·cases z
    ·exact ⟨d,.inl e,n⟩
   ·rcases get_set e with ⟨_,z⟩ | ⟨n,e⟩
    ·cases z
    ·exact ⟨d,.inr e,n⟩
  obtain ⟨d,e,n⟩:=this;rw [IM n] at s;exact ⟨j,⟨d,e⟩,s⟩
theorem Rel.forget (R:Rel K F0 H₀ I env σ H) (i:Nat) (x:Option V):Rel K F0 H₀ I (env.set i .un) (σ.set i x) H:=by
 obtain ⟨hf,hi⟩:=R.sub i x;have mm:∀ j,mu (env.set i .un) j->mu env j/\i≠j:=fun j h=>by
  obtain ⟨d,e | e⟩:=h
  ·rcases get_set e with ⟨_,z⟩ | ⟨n,e⟩
   ·cases z
   ·exact ⟨⟨d,.inl e⟩,n⟩
  ·rcases get_set e with ⟨_,z⟩ | ⟨n,e⟩
   ·cases z
   ·exact ⟨⟨d,.inr e⟩,n⟩
 refine ⟨by rw [Jy,Jy];exact R.len,fun j d e=>?_,fun j d e=>?_,fun j d e=>?_,fun j d e=>?_,fun j k a h1 h2 h3 h4=>?_,R.dom,R.d5⟩
 ·rcases get_set e with ⟨_,z⟩ | ⟨n,e⟩
  ·cases z
  obtain ⟨v,s,r⟩:=R.dat j d e;exact ⟨v,by rw [IM n];exact s,r.mono hf⟩
 ·rcases get_set e with ⟨_,z⟩ | ⟨n,e⟩
  ·cases z
  obtain ⟨a,s,q,w,t⟩:=R.own j d e;exact ⟨a,by rw [IM n];exact s,q,w,t.pr Pr.refl hf fun _ z=>z⟩
 ·rcases get_set e with ⟨_,z⟩ | ⟨n,e⟩
  ·cases z
  obtain ⟨a,s,q,w,t⟩:=R.ino j d e;exact ⟨a,by rw [IM n];exact s,q,w,t.pr Pr.refl hf fun _ z=>z⟩
 ·rcases get_set e with ⟨_,z⟩ | ⟨n,e⟩
  ·cases z
  obtain ⟨a,s,t⟩:=R.ro j d e;exact ⟨a,by rw [IM n];exact s,t.pr Pr.refl hf hi fun _ _ z _=>z⟩
 ·obtain ⟨m1,n1⟩:=mm j h1;obtain ⟨m2,n2⟩:=mm k h2;rw [IM n1] at h3;rw [IM n2] at h4;exact R.sep j k a m1 m2 h3 h4
theorem kA {i:Nat} {s:Sl} {x:Option V} (hu:env[i]?=some .un) (hs:∀ d,s≠.own d):FF F0 (env.set i s) (σ.set i x)=FF F0 env σ:=by
 funext b;apply propext;constructor
 ·rintro (h | ⟨j,d,e,q⟩)
  ·exact .inl h
  ·rcases get_set e with ⟨_,z⟩ | ⟨n,e⟩
   ·exact absurd z (hs d)
   ·rw [IM n] at q;exact .inr ⟨j,d,e,q⟩
 ·rintro (h | ⟨j,d,e,q⟩)
  ·exact .inl h
  ·have n:i≠j:=fun z=>by subst z;rw [hu] at e;cases e
   exact .inr ⟨j,d,by rw [IM n];exact e,by rw [IM n];exact q⟩
theorem tW {i:Nat} {s:Sl} {x:Option V} (hu:env[i]?=some .un) (hs:∀ d,s≠.own d/\s≠.ino d):IA (env.set i s) (σ.set i x)=IA env σ:=by
 funext b;apply propext;constructor
 ·rintro ⟨j,⟨d,e | e⟩,q⟩
  ·rcases get_set e with ⟨_,z⟩ | ⟨n,e⟩
   ·exact absurd z (hs d).1
   ·rw [IM n] at q;exact ⟨j,⟨d,.inl e⟩,q⟩
  ·rcases get_set e with ⟨_,z⟩ | ⟨n,e⟩
   ·exact absurd z (hs d).2
   ·rw [IM n] at q;exact ⟨j,⟨d,.inr e⟩,q⟩
 ·rintro ⟨j,⟨d,e⟩,q⟩;have n:i≠j:=fun z=>by subst z;rw [hu] at e;rcases e with e | e <;> cases e
  refine ⟨j,⟨d,?_⟩,by rw [IM n];exact q⟩;rw [IM n];exact e
theorem Rel.putD (R:Rel K F0 H₀ I env σ H) {i:Nat} {d:PyData} {v:V} (hu:env[i]?=some .un) (h:Dm K (FF F0 env σ) H d v):Rel K F0 H₀ I (env.set i (.dat d)) (σ.set i (some v)) H:=by
 have hi:i < env.length:=(IL.mp hu).1;have eF:FF F0 (env.set i (.dat d)) (σ.set i (some v))=FF F0 env σ:=kA hu (fun _=>nofun);have eI:IA (env.set i (.dat d)) (σ.set i (some v))=IA env σ:=tW hu (fun _=>⟨nofun,nofun⟩);have mm:∀ j,mu (env.set i (.dat d)) j->mu env j/\i≠j:=fun j h=>by
  obtain ⟨c,e | e⟩:=h
  ·rcases get_set e with ⟨_,z⟩ | ⟨n,e⟩
   ·cases z
   ·exact ⟨⟨c,.inl e⟩,n⟩
  ·rcases get_set e with ⟨_,z⟩ | ⟨n,e⟩
   ·cases z
   ·exact ⟨⟨c,.inr e⟩,n⟩
 refine ⟨by rw [Jy,Jy];exact R.len,fun j c e=>?_,fun j c e=>?_,fun j c e=>?_,fun j c e=>?_,fun j k a h1 h2 h3 h4=>?_,R.dom,R.d5⟩
 ·rw [eF];rcases get_set e with ⟨z,y⟩ | ⟨n,e⟩
  ·subst z;cases y;exact ⟨v,Jc (by rw [<- R.len];exact hi),h⟩
  obtain ⟨w,s,r⟩:=R.dat j c e;exact ⟨w,by rw [IM n];exact s,r⟩
 ·rw [eF];rcases get_set e with ⟨_,z⟩ | ⟨n,e⟩
  ·cases z
  obtain ⟨a,s,q,w,t⟩:=R.own j c e;exact ⟨a,by rw [IM n];exact s,q,w,t⟩
 ·rw [eF];rcases get_set e with ⟨_,z⟩ | ⟨n,e⟩
  ·cases z
  obtain ⟨a,s,q,w,t⟩:=R.ino j c e;exact ⟨a,by rw [IM n];exact s,q,w,t⟩
 ·rw [eF,eI];rcases get_set e with ⟨_,z⟩ | ⟨n,e⟩
  ·cases z
  obtain ⟨a,s,t⟩:=R.ro j c e;exact ⟨a,by rw [IM n];exact s,t⟩
 ·obtain ⟨m1,n1⟩:=mm j h1;obtain ⟨m2,n2⟩:=mm k h2;rw [IM n1] at h3;rw [IM n2] at h4;exact R.sep j k a m1 m2 h3 h4
theorem Rel.G2 {i:Nat} {d:PyData} {a:Addr} (hu:env[i]?=some .un) (h:fk K F0 H₀ I env σ H (.frs d) (.ref a)):Rel K F0 H₀ I (env.set i (.own d)) (σ.set i (some (.ref a))) H:=by
 obtain ⟨a',ea,R,t,w,nF,hino,hro⟩:=h;cases ea;have hi:i < env.length:=(IL.mp hu).1;have his:i < σ.length:=by rw [<- R.len];exact hi
 have eF:FF F0 (env.set i (.own d)) (σ.set i (some (.ref a)))=fun b=>FF F0 env σ b\/b=a:=by
  funext b;apply propext;constructor
  ·rintro (h | ⟨j,c,e,q⟩)
   ·exact .inl (.inl h)
   ·rcases get_set e with ⟨z,y⟩ | ⟨n,e⟩
    ·subst z;rw [Jc his] at q;cases q;exact .inr rfl
    ·rw [IM n] at q;exact .inl (.inr ⟨j,c,e,q⟩)
  ·rintro ((h | ⟨j,c,e,q⟩) | rfl)
   ·exact .inl h
   ·have n:i≠j:=fun z=>by subst z;rw [hu] at e;cases e
    exact .inr ⟨j,c,by rw [IM n];exact e,by rw [IM n];exact q⟩
   ·exact .inr ⟨i,d,Jc hi,Jc his⟩
 have eF2:FF (fun b=>F0 b\/b=a) env σ=fun b=>FF F0 env σ b\/b=a:=gp;have mm:∀ j,mu (env.set i (.own d)) j->i=j\/(mu env j/\i≠j):=fun j h=>by
  obtain ⟨c,e | e⟩:=h
  ·rcases get_set e with ⟨z,_⟩ | ⟨n,e⟩
   ·exact .inl z
   ·exact .inr ⟨⟨c,.inl e⟩,n⟩
  ·rcases get_set e with ⟨z,_⟩ | ⟨n,e⟩
   ·exact .inl z
   ·exact .inr ⟨⟨c,.inr e⟩,n⟩
 have eI:∀ b,IA (env.set i (.own d)) (σ.set i (some (.ref a))) b->IA env σ b\/b=a:=by
  rintro b ⟨j,m,q⟩;rcases mm j m with z | ⟨m',n⟩
  ·subst z;rw [Jc his] at q;cases q;exact .inr rfl
  ·rw [IM n] at q;exact .inl ⟨j,m',q⟩
 have na:∀ j,mu env j->σ[j]?≠some (some (.ref a)):=fun j m q=>by
  obtain ⟨c,e | e⟩:=m
  ·exact nF (.inr ⟨j,c,e,q⟩)
  ·exact hino j c e q
 refine ⟨by rw [Jy,Jy];exact R.len,fun j c e=>?_,fun j c e=>?_,fun j c e=>?_,fun j c e=>?_,fun j k b h1 h2 h3 h4=>?_,fun b h=>R.dom b (.inl h),R.d5⟩
 ·rw [eF];rcases get_set e with ⟨_,z⟩ | ⟨n,e⟩
  ·cases z
  obtain ⟨x,s,r⟩:=R.dat j c e;rw [eF2] at r;exact ⟨x,by rw [IM n];exact s,r⟩
 ·rw [eF];rcases get_set e with ⟨z,y⟩ | ⟨n,e⟩
  ·subst z;cases y;exact ⟨a,Jc his,fun z=>nF (.inl z),w,t⟩
  obtain ⟨b,s,q,w',t'⟩:=R.own j c e;rw [eF2] at t';exact ⟨b,by rw [IM n];exact s,fun z=>q (.inl z),w',t'⟩
 ·rw [eF];rcases get_set e with ⟨_,z⟩ | ⟨n,e⟩
  ·cases z
  obtain ⟨b,s,q,w',t'⟩:=R.ino j c e;rw [eF2] at t';refine ⟨b,by rw [IM n];exact s,?_,w',t'⟩;rcases q with q | q
  ·exact q
  ·subst q;exact absurd s (hino j c e)
 ·rw [eF];rcases get_set e with ⟨_,z⟩ | ⟨n,e⟩
  ·cases z
  obtain ⟨b,s,t'⟩:=hro j c e;exact ⟨b,by rw [IM n];exact s,t'.pr Pr.refl (fun _ z=>z) eI fun _ _ z _=>z⟩
 ·rcases mm j h1 with z1 | ⟨m1,n1⟩
  ·rcases mm k h2 with z2 | ⟨m2,n2⟩
   ·rw [<- z1,<-z2]
   ·rw [<- z1,Jc his] at h3;cases h3;rw [IM n2] at h4;exact absurd h4 (na k m2)
  ·rw [IM n1] at h3;rcases mm k h2 with z2 | ⟨m2,n2⟩
   ·rw [<- z2,Jc his] at h4;cases h4;exact absurd h3 (na j m1)
   ·rw [IM n2] at h4;exact R.sep j k b m1 m2 h3 h4
theorem Rel.take (R:Rel K F0 H₀ I env σ H) {i:Nat} {d:PyData} (e:env[i]?=some (.own d)):∃ a,σ[i]?=some (some (.ref a))/\fk K F0 H₀ I (env.set i .un) σ H (.frs d) (.ref a):=by
 obtain ⟨a,s,nF0,w,t⟩:=R.own i d e;have hi:i < env.length:=(IL.mp e).1;have mm:∀ j,mu (env.set i .un) j->mu env j/\i≠j:=fun j h=>by
  obtain ⟨c,e | e⟩:=h
  ·rcases get_set e with ⟨_,z⟩ | ⟨n,e⟩
   ·cases z
   ·exact ⟨⟨c,.inl e⟩,n⟩
  ·rcases get_set e with ⟨_,z⟩ | ⟨n,e⟩
   ·cases z
   ·exact ⟨⟨c,.inr e⟩,n⟩
 have eF:FF F0 env σ=fun b=>FF F0 (env.set i .un) σ b\/b=a:=by
  funext b;apply propext;constructor
  ·rintro (h | ⟨j,c,e',q⟩)
   ·exact .inl (.inl h)
   ·by_cases n:i=j
    ·subst n;rw [s] at q;cases q;exact .inr rfl
    ·exact .inl (.inr ⟨j,c,by rw [IM n];exact e',q⟩)
  ·rintro ((h | ⟨j,c,e',q⟩) | rfl)
   ·exact .inl h
   ·rcases get_set e' with ⟨_,z⟩ | ⟨n,e'⟩
    ·cases z
    ·exact .inr ⟨j,c,e',q⟩
   ·exact .inr ⟨i,d,e,s⟩
 have eF2:FF (fun b=>F0 b\/b=a) (env.set i .un) σ=FF F0 env σ:=by rw [gp];exact eF.symm
 have na:∀ j,mu (env.set i .un) j->σ[j]?≠some (some (.ref a)):=fun j m q=>by
  obtain ⟨m',n⟩:=mm j m;exact n (R.sep i j a ⟨d,.inl e⟩ m' s q)
 have nF:¬FF F0 (env.set i .un) σ a:=by
  rintro (h | ⟨j,c,e',q⟩)
  ·exact nF0 h
  ·exact na j ⟨c,.inl e'⟩ q
 have ia:∀ b,IA (env.set i .un) σ b->IA env σ b:=fun b ⟨j,m,q⟩=>⟨j,(mm j m).1,q⟩;have ia2:∀ b,(IA (env.set i .un) σ b\/b=a)->IA env σ b:=fun b h=>h.elim (ia b) fun z=>z▸⟨i,⟨d,.inl e⟩,s⟩;have R':Rel K (fun b=>F0 b\/b=a) H₀ I (env.set i .un) σ H:=by
  refine ⟨by rw [Jy];exact R.len,fun j c e'=>?_,fun j c e'=>?_,fun j c e'=>?_,fun j c e'=>?_,fun j k b h1 h2 h3 h4=>R.sep j k b (mm j h1).1 (mm k h2).1 h3 h4,fun b h=>?_,R.d5⟩
  ·rw [eF2];rcases get_set e' with ⟨_,z⟩ | ⟨n,e'⟩
   ·cases z
   exact R.dat j c e'
  ·rw [eF2];have m:=e';rcases get_set e' with ⟨_,z⟩ | ⟨n,e'⟩
   ·cases z
   obtain ⟨b,s',q,w',t'⟩:=R.own j c e';exact ⟨b,s',fun z=>z.elim q fun z=>na j ⟨c,.inl m⟩ (z▸s'),w',t'⟩
  ·rw [eF2];rcases get_set e' with ⟨_,z⟩ | ⟨n,e'⟩
   ·cases z
   obtain ⟨b,s',q,w',t'⟩:=R.ino j c e';exact ⟨b,s',.inl q,w',t'⟩
  ·rw [eF2];rcases get_set e' with ⟨_,z⟩ | ⟨n,e'⟩
   ·cases z
   obtain ⟨b,s',t'⟩:=R.ro j c e';exact ⟨b,s',t'.pr Pr.refl (fun _ z=>z) ia fun _ _ z _=>z⟩
  ·rcases h with h | h
   ·exact R.dom b h
   ·obtain ⟨o,q,_⟩:=t.wr;rw [h,q];exact nofun
 refine ⟨a,s,a,rfl,R',by rw [eF] at t;exact t,w,nF,fun j c e'=>na j ⟨c,.inr e'⟩,fun j c e'=>?_⟩;rcases get_set e' with ⟨_,z⟩ | ⟨n,e'⟩
 ·cases z
 obtain ⟨b,s',t'⟩:=R.ro j c e';rw [eF] at t';exact ⟨b,s',t'.pr Pr.refl (fun _ z=>z) ia2 fun _ _ z _=>z⟩
theorem fk.rel {d:PyData} {v:V} (h:fk K F0 H₀ I env σ H (.frs d) v):Rel K F0 H₀ I env σ H:=by
 obtain ⟨a,_,R,_,_,_,hi,_⟩:=h;exact R.less hi
theorem set_same {α:Type} {l:List α} {i:Nat} {x:α} (h:l[i]?=some x):l.set i x=l:=by
 have hi:i < l.length:=(IL.mp h).1;apply List.ext_getElem?;intro j;by_cases z:i=j
 ·subst z;rw [Jc hi,h]
 ·rw [IM z]
theorem Rel.mov (R:Rel K F0 H₀ I env σ H) {i:Nat} {d:PyData} (e:env[i]?=some (.own d)):∃ a,σ[i]?=some (some (.ref a))/\Rel K F0 H₀ I (env.set i (.dat d)) σ H/\Dm K (FF F0 (env.set i (.dat d)) σ) H d (.ref a):=by
 have hi:i < env.length:=(IL.mp e).1;obtain ⟨a,s,h⟩:=R.take e;have R1:=h.rel;have hu:(env.set i .un)[i]?=some .un:=Jc hi;have hd:Dm K (FF F0 (env.set i .un) σ) H d (.ref a):=fk.av h;have R2:=R1.putD hu hd;rw [Ki,set_same s] at R2;refine ⟨a,s,R2,?_⟩;have eF:FF F0 (env.set i (.dat d)) σ=FF F0 (env.set i .un) σ:=by
  have:=kA (F0:=F0) (σ:=σ) (s:=.dat d) (x:=some (.ref a)) hu (fun _=>nofun);rw [Ki,set_same s] at this;exact this
 rw [eF];exact hd
theorem xG {i:Nat} {s s':Sl} (e:env[i]?=some s) (v:Evo s s'):KpE env (env.set i s'):=by
 have hi:i < env.length:=(IL.mp e).1;refine ⟨Jy,fun j t h=>?_⟩;by_cases z:i=j
 ·subst z;rw [e] at h;cases h;exact ⟨s',Jc hi,v⟩
 ·exact ⟨t,by rw [IM z];exact h,.refl t⟩
end
end L2
end
section
namespace L2
open PySem
theorem oe (x y:Str):(x++y).cps=x.cps++y.cps:=rfl
theorem mK {x y:Str} (h:PyData.strOk x=true) (q:PyData.strOk y=true):PyData.strOk (x++y)=true:=by
 unfold PyData.strOk at h q ⊢;rw [oe,Array.all_append,h,q];rfl
def SE (K:Fg) (ga:Nat->V) (gd:List PyData) (e:XE):Prop:=∀ (env:En) (rv:RV) (env':En),dE gd e env=some (rv,env')->∀ (F0:Addr->Prop) (H₀:Hp) (I:Addr->Prop) (σ:St) (H:Hp) (Q:VK),Rel K F0 H₀ I env σ H ->
 (∀ v H',Rel K F0 H₀ I env' σ H'->KpE env env'->fk K F0 H₀ I env' σ H' rv v->Q v H')->rE K ga e σ H Q
def SA (K:Fg) (ga:Nat->V) (gd:List PyData) (e:XA):Prop:=∀ (env:En) (rv:List AV) (env':En),dA gd e env=some (rv,env')->∀ (F0:Addr->Prop) (H₀:Hp) (I:Addr->Prop) (σ:St) (H:Hp) (Q:List V->Hp->Prop),Rel K F0 H₀ I env σ H ->
 (∀ v H',Rel K F0 H₀ I env' σ H'->KpE env env'->iF K F0 env' σ H' rv v->Q v H')->rA K ga e σ H Q
def SF (K:Fg) (ga:Nat->V) (gd:List PyData) (e:XA):Prop:=∀ (out:Str) (env:En) (x:Str) (env':En),dF gd e out env=some (x,env')->∀ (F0:Addr->Prop) (H₀:Hp) (I:Addr->Prop) (σ:St) (H:Hp) (Q:VK),Rel K F0 H₀ I env σ H ->
 PyData.strOk out=true->(∀ H',Rel K F0 H₀ I env' σ H'->KpE env env'->x.length<=sizeLine->PyData.strOk x=true->Q (.str x) H')->tFs (rF K ga e) out σ H Q
def AI (K:Fg) (F:Addr->Prop) (H:Hp):List (Key×PyData)->List (Key×V)->Prop
 | [],vs=>vs=[]
 | (k,d) :: ds,vs=>∃ v r,vs=(k,v) :: r/\Dm K F H (kD k) (kV k)/\Dm K F H d v/\AI K F H ds r
def SPs (K:Fg) (ga:Nat->V) (gd:List PyData) (e:XP):Prop:=∀ (env:En) (kvs:List (Key×PyData)) (env':En),dP gd e env=some (kvs,env')->∀ (F0:Addr->Prop) (H₀:Hp) (I:Addr->Prop) (σ:St) (H:Hp) (Q:List (V×V)->Hp->Prop),Rel K F0 H₀ I env σ H ->
 (∀ vs H',Rel K F0 H₀ I env' σ H'->KpE env env'->AI K (FF F0 env' σ) H' kvs vs->Q (vs.map fun kv=>(kV kv.1,kv.2)) H')->p5 (rP K ga e) σ H Q
def ST (K:Fg) (ga:Nat->V) (gd:List PyData) (e:XT):Prop:=∀ (env:En) (b:Bool) (env':En),dT gd e env=some (b,env')->∀ (F0:Addr->Prop) (H₀:Hp) (I:Addr->Prop) (σ:St) (H:Hp) (Q:Bool->Hp->Prop),Rel K F0 H₀ I env σ H ->
 (∀ H',Rel K F0 H₀ I env' σ H'->KpE env env'->Q b H')->rT K ga e σ H Q
def ItY (K:Fg) (F:Addr->Prop) (H H' H'':Hp) (d:PyData) (x:V):Prop:=(H''=H'/\Dm K F H d x)\/∃ p u v d1 d2,d=.tuple [d1,d2]/\x=.ref p/\H' p=none/\H''=upd H' p (.tup [u,v])/\Dm K F H d1 u/\Dm K F H d2 v
theorem ItY.dm {K:Fg} {F F2:Addr->Prop} {H H' H'':Hp} {d:PyData} {x:V} (h:ItY K F H H' H'' d x) (T:∀ d v,Dm K F H d v->Dm K F2 H' d v):bf H' H''/\Dm K F2 H'' d x:=by
 rcases h with ⟨rfl,h⟩ | ⟨p,u,v,d1,d2,rfl,rfl,hp,rfl,h1,h2⟩
 ·exact ⟨fun _ _ e=>e,T _ _ h⟩
 ·have sm:bf H' (upd H' p (.tup [u,v])):=fun b o e=>by rw [ay (fun z=>by rw [z,hp] at e;cases e)];exact e
  refine ⟨sm,p,[u,v],rfl,SqT.of aF,Nat.le_of_ble_eq_true rfl,u,_,rfl,?_,v,_,rfl,?_,rfl⟩
  ·exact (T _ _ h1).pr (fun b o e _=>sm b o e) fun _ z=>z
  ·exact (T _ _ h2).pr (fun b o e _=>sm b o e) fun _ z=>z
def wV (K:Fg) (F I:Addr->Prop) (H:Hp) (J:It) (ds:List PyData):Prop:=ds.length<=sizeLine/\∀ H',(∀ b o,H b=some o->¬I b->H' b=some o)->∀ k,(k < ds.length->J.go k H'/\∀ x H'',J.yld k H' x H''->∃ d,ds[k]?=some d/\ItY K F H H' H'' d x)/\(ds.length<=k->J.stop k H')
theorem jF {K:Fg} {F I:Addr->Prop} {H:Hp} {J:It} {ds:List PyData} {vs:List V} (hd:DmL K F H ds vs) (hl:vs.length<=sizeLine) (h:∀ H',(∀ b o,H b=some o->¬I b->H' b=some o)->∀ k,(k < vs.length->J.go k H'/\∀ x H'',J.yld k H' x H''->H''=H'/\vs[k]?=some x)/\(vs.length<=k->J.stop k H')):wV K F I H J ds:=by
 have e:=hd.len;refine ⟨by omega,fun H' k j=>⟨fun hj=>?_,fun hj=>((h H' k j).2 (by omega))⟩⟩;obtain ⟨g,y⟩:=(h H' k j).1 (by omega);refine ⟨g,fun x H'' hx=>?_⟩;obtain ⟨e0,hx2⟩:=y x H'' hx;obtain ⟨d,h1,h2⟩:=hd.get' hx2;exact ⟨d,h1,.inl ⟨e0,h2⟩⟩
def SI (K:Fg) (ga:Nat->V) (gd:List PyData) (e:XI):Prop:=∀ (env:En) (ds:List PyData) (lock:Option Nat) (env':En),dI gd e env=some (ds,lock,env')->∀ (F0:Addr->Prop) (H₀:Hp) (I:Addr->Prop) (σ:St) (H:Hp) (R:It->Hp->Prop),Rel K F0 H₀ I env σ H ->
 (∀ J H',Rel K F0 H₀ I env' σ H'->KpE env env'->(∀ i,lock=some i->∃ d,cont env' i=some d)->wV K (FF F0 env' σ) (fun b=>IA env' σ b/\∀ i,lock=some i->mu env' i->σ[i]?≠some (some (.ref b))) H' J ds->R J H')->rI_ K ga e σ H R
section
variable {K:Fg} {F F' I I' F0:Addr->Prop} {H H' H₀:Hp} {env env':En} {σ σ':St} {ga:Nat->V} {gd:List PyData}
theorem Gu (i:Nat):SE K ga gd (.var i):=by
 intro env rv env' h F0 H₀ I σ H Q R q;simp only [dE] at h;split at h
 ·rename_i d e;cases h;obtain ⟨v,s,r⟩:=R.dat i d e;exact ⟨v,s,q v H R (KpE.refl _) r⟩
 ·rename_i d e;cases h;obtain ⟨a,s,_⟩:=R.own i d e;exact ⟨_,s,q _ H R (KpE.refl _) s⟩
 ·rename_i d e;cases h;obtain ⟨a,s,_⟩:=R.ino i d e;exact ⟨_,s,q _ H R (KpE.refl _) s⟩
 ·rename_i d e;cases h;obtain ⟨a,s,_⟩:=R.ro i d e;exact ⟨_,s,q _ H R (KpE.refl _) s⟩
 ·cases h
theorem FT (i:Nat):SE K ga gd (.mov i):=by
 intro env rv env' h F0 H₀ I σ H Q R q;simp only [dE] at h;split at h
 ·rename_i d e;cases h;obtain ⟨a,s,R',r⟩:=R.mov e;exact ⟨_,s,q _ H R' (xG e (.inr (.inl ⟨d,rfl⟩))) r⟩
 ·cases h
theorem D9 (i:Nat):SE K ga gd (.tke i):=by
 intro env rv env' h F0 H₀ I σ H Q R q;simp only [dE] at h;split at h
 ·rename_i d e;cases h;obtain ⟨a,s,r⟩:=R.take e;exact ⟨_,s,q _ H r.rel (xG e (.inr (.inr rfl))) r⟩
 ·cases h
theorem Ea (c:Cst):SE K ga gd (.cst c):=by
 intro env rv env' h F0 H₀ I σ H Q R q;simp only [dE] at h;cases h;exact q _ H R (KpE.refl _) (c.ok _ _ _)
theorem GJ (hg:∀ g d,gd[g]?=some d->∀ F H,Dm K F H d (ga g)) (g:Nat):SE K ga gd (.glb g):=by
 intro env rv env' h F0 H₀ I σ H Q R q;simp only [dE] at h;split at h
 ·rename_i d e;cases h;exact q _ H R (KpE.refl _) (hg g d e _ _)
 ·cases h
theorem GC {p:Prm} {as:XA} (ih:SA K ga gd as):SE K ga gd (.prm p as):=by
 intro env rv env' h F0 H₀ I σ H Q R q;simp only [dE] at h;split at h
 ·rename_i avs e1 h1;split at h
  ·rename_i ds h2;split at h
   ·rename_i pr h3;cases h;refine ih _ _ _ h1 F0 H₀ I σ H _ R fun vs H1 R1 k1 a1=>?_;refine p.ok K _ H1 ds vs pr Q h3 (a1.vw R1 h2) (fun b z=>R1.ft z) fun v H2 s2 hp=>?_;exact q v H2 (R1.same s2) k1 (R1.mJ s2 hp)
   ·cases h
  ·cases h
 ·cases h
theorem D1 {m:Mtd} {o:XE} {as:XA} (io:SE K ga gd o) (ih:SA K ga gd as):SE K ga gd (.met m o as):=by
 intro env rv env' h F0 H₀ I σ H Q R q;simp only [dE] at h;split at h
 ·rename_i rv0 e1 h1;split at h
  ·rename_i d0 h2;split at h
   ·rename_i hty;split at h
    ·rename_i avs e2 h3;split at h
     ·rename_i d ds h4 h5;split at h
      ·rename_i pr h6;cases h;refine io _ _ _ h1 F0 H₀ I σ H _ R fun v H1 R1 k1 a1=>?_;refine ⟨m.BP K _ H1 d0 v hty (a1.av.vw R1 h2),?_⟩;refine ih _ _ _ h3 F0 _ _ σ H1 _ R1.rebase fun vs H2 S2 k2 a2=>?_;have R2:=R1.bN S2;refine m.ok K _ H2 d v ds vs pr Q h6 ((a1.av.keep R1 S2 k2).vw R2 h4) (a2.vw R2 h5) (fun b z=>R2.ft z) fun v H3 s3 hp=>?_;exact q v H3 (R2.same s3) (k1.trans k2) (R2.mJ s3 hp)
      ·cases h
     ·cases h
    ·cases h
   ·cases h
  ·cases h
 ·cases h
theorem Rel.G1 (R:Rel K F0 H₀ I env σ H) {i:Nat} {d d':PyData} {a:Addr} (hm:br env i=some d) (s:σ[i]?=some (some (.ref a))) (hk:∀ b o,b≠a->H b=some o->H' b=some o) (ht:Top K (FF F0 env σ) H' d' a):Rel K F0 H₀ I (iG env i d') σ H':=by
 obtain ⟨m,a',s',_,_⟩:=R.dX hm;rw [s] at s';cases s';have hia:IA env σ a:=⟨i,m,s⟩;refine R.chg (fc env i d') (fun b o e n=>hk b o (fun z=>n (z▸hia)) e) fun j c b hc hs=>?_;by_cases z:j=i
 ·subst z;rw [kK m] at hc;cases hc;rw [s] at hs;cases hs;exact ht
 ·have hc':br env j=some c:=by
   unfold br at hc ⊢
   rwa [lN z] at hc
  obtain ⟨m2,b',s2,_,t2⟩:=R.dX hc';rw [hs] at s2;cases s2;have nb:b≠a:=fun y=>z (R.sep j i a m2 m (y▸hs) s);refine t2.pr (R.qe fun b' o e n=>hk b' o (fun z=>n (z▸hia)) e) (fun _ z=>z) fun o e=>hk b o nb e
theorem El {m:Mtr} {i:Nat} {as:XA} (ih:SA K ga gd as):SE K ga gd (.mtr m i as):=by
 intro env rv env' h F0 H₀ I σ H Q R q;simp only [dE] at h;split at h
 ·rename_i d0 h0;split at h
  ·rename_i hty;split at h
   ·rename_i avs e1 h1;split at h
    ·rename_i d ds h2 h3;split at h
     ·rename_i d' pr h4;cases h;obtain ⟨_,a,s,f,t⟩:=R.dX h0;refine ⟨.ref a,s,m.BP K _ H d0 a hty t,?_⟩;refine ih _ _ _ h1 F0 H₀ I σ H _ R fun vs H1 R1 k1 a1=>?_;obtain ⟨m1,a',s',f1,t1⟩:=R1.dX h2;rw [s] at s';cases s';refine m.ok K _ H1 d a ds vs d' pr Q h4 f1 t1 (a1.mv R1 h3) fun v H2 hk ht hp=>?_;refine q v H2 (R1.G1 h2 s hk ht) (k1.trans (vh _ _ _)) ?_;show Dm K (FF F0 (iG e1 i d') σ) H2 pr v;rw [(fc e1 i d').ff (F0:=F0) (σ:=σ)];exact hp
     ·cases h
    ·cases h
   ·cases h
  ·cases h
 ·cases h
def adr (σ:St) (i:Nat):Addr:=match σ[i]? with | some (some (.ref a))=>a | _=>0
theorem iC {i:Nat} {a:Addr} (h:σ[i]?=some (some (.ref a))):adr σ i=a:=by unfold adr;rw [h]
theorem kE {ms:List PM} {as:List AV} {ds:List PyData} {m:PM} {a:AV} (h:jZ env (m :: ms) (a :: as)=some ds):∃ d r,ds=d :: r/\Er env m a=some d/\jZ env ms as=some r:=by
 unfold jZ at h;split at h
 ·rename_i d r e1 e2;cases h;exact ⟨d,r,rfl,e1,e2⟩
 ·cases h
theorem gn.bor {G I:Addr->Prop} {d:PyData} {a:Addr} (h:gn K G I H d a):zx K G I H d (.ref a):=by cases d <;> first | exact ⟨a,rfl,h⟩ | exact absurd h id
theorem Dw (R:Rel K F0 H₀ I env σ H) (all:List Nat) (hall:∀ i∈all,mu env i):∀ {ms:List PM} {as:List AV} {ds:List PyData} {vs:List V},jZ env ms as=some ds->iF K F0 env σ H as vs->(dr ms as).Nodup->(∀ i∈sh ms as,i ∉ all)->(∀ i∈dr ms as,i∈all) ->
  cC K (FF F0 env σ) (·∈all.map (adr σ)) H ms ds vs ((dr ms as).map (adr σ)):=by
 have iAll:∀ b,b∈all.map (adr σ)->IA env σ b:=fun b hb=>by
  obtain ⟨i,hi,e⟩:=JB.mp hb;have m:=hall i hi;obtain ⟨d,m'⟩:=m;have:∃ a,σ[i]?=some (some (.ref a)):=by
   rcases m' with z | z
   ·obtain ⟨a,s,_⟩:=R.own i d z;exact ⟨a,s⟩
   ·obtain ⟨a,s,_⟩:=R.ino i d z;exact ⟨a,s⟩
  obtain ⟨a,s⟩:=this;rw [iC s] at e;subst e;exact ⟨i,hall i hi,s⟩
 intro ms;induction ms with
 | nil =>
  intro as ds vs h q _ _ _;cases as with
  | nil=>cases h;rw [show vs=[] from q];rfl
  | cons a as=>cases h
 | cons m ms ih =>
  intro as ds vs h q nd hb hi;cases as with
  | nil=>cases h
  | cons a as =>
   obtain ⟨d,r,rfl,h1,h2⟩:=kE h;obtain ⟨v,vr,rfl,q1,q2⟩:=q;cases m with
   | dat =>
    cases a with
    | bor i=>cases h1
    | dat d' =>
     cases h1;exact ⟨q1,ih h2 q2 (by simpa [dr] using nd) (by simpa [sh] using hb) (by simpa [dr] using hi)⟩
   | bor =>
    cases a with
    | dat d' =>
     by_cases ct:∃ ts,d'=.tuple ts
     ·obtain ⟨ts,rfl⟩:=ct;cases h1;exact ⟨q1,ih h2 q2 (by simpa [dr] using nd) (by simpa [sh] using hb) (by simpa [dr] using hi)⟩
     have l:d'=d/\((∃ ds,d=.list ds)\/∃ ds,d=.dict ds):=by
      cases d' <;> first | exact absurd ⟨_,rfl⟩ ct | (cases h1;exact ⟨rfl,.inl ⟨_,rfl⟩⟩) | (cases h1;exact ⟨rfl,.inr ⟨_,rfl⟩⟩) | cases h1
     obtain ⟨rfl,l⟩:=l;obtain ⟨b,e,t⟩:=Dm.ro (I:=(·∈all.map (adr σ))) q1 (fun b z=>R.ia (iAll b z)) l;exact ⟨by rcases l with ⟨_,rfl⟩ | ⟨_,rfl⟩ <;> exact ⟨b,e,t⟩,ih h2 q2 (by simpa [dr] using nd) (by simpa [sh] using hb) (by simpa [dr] using hi)⟩
    | bor i =>
     have h1:cont env i=some d:=h1;have hb':i ∉ all:=hb i (by simp [sh]);refine ⟨?_,ih h2 q2 (by simpa [dr] using nd) (fun j hj=>hb j (by simp [sh,hj])) (by simpa [dr] using hi)⟩;unfold cont at h1;have na:∀ a,mu env i->σ[i]?=some (some (.ref a))->a ∉ all.map (adr σ):=fun a m s z=>by
      obtain ⟨j,hj,e⟩:=JB.mp z;obtain ⟨k,mk,sk⟩:=iAll a z;obtain ⟨dj,mj⟩:=hall j hj;have:∃ c,σ[j]?=some (some (.ref c)):=by
       rcases mj with z | z
       ·obtain ⟨a,s,_⟩:=R.own j dj z;exact ⟨a,s⟩
       ·obtain ⟨a,s,_⟩:=R.ino j dj z;exact ⟨a,s⟩
      obtain ⟨c,sj⟩:=this;rw [iC sj] at e;subst e;have:=R.sep i j c m ⟨dj,mj⟩ s sj;subst this;exact hb' hj
     split at h1
     ·rename_i d' e;cases h1;obtain ⟨a,s,_,_,t⟩:=R.own i d e;rw [show σ[i]?=some (some v) from q1] at s;cases s;exact gn.bor (t.ro (na a ⟨d,.inl e⟩ q1))
     ·rename_i d' e;cases h1;obtain ⟨a,s,_,_,t⟩:=R.ino i d e;rw [show σ[i]?=some (some v) from q1] at s;cases s;exact gn.bor (t.ro (na a ⟨d,.inr e⟩ q1))
     ·rename_i d' e;cases h1;obtain ⟨a,s,t⟩:=R.ro i d e;rw [show σ[i]?=some (some v) from q1] at s;cases s;exact gn.bor (t.pr Pr.refl (fun _ z=>z) iAll fun _ _ z _=>z)
     ·cases h1
   | ino =>
    cases a with
    | dat d'=>cases h1
    | bor i =>
     have h1:br env i=some d:=h1;obtain ⟨m,b,s,f,t⟩:=R.dX h1;rw [show σ[i]?=some (some v) from q1] at s;cases s;have nd':i ∉ dr ms as/\(dr ms as).Nodup:=by simpa [dr] using nd
     refine ⟨b,(dr ms as).map (adr σ),rfl,by simp [dr,iC q1],f,t,fun z=>?_,ih h2 q2 nd'.2 (by simpa [sh] using hb) (fun j hj=>hi j (by simp [dr,hj]))⟩;obtain ⟨j,hj,e⟩:=JB.mp z;obtain ⟨dj,mj⟩:=hall j (hi j (by simp [dr,hj]));have:∃ c,σ[j]?=some (some (.ref c)):=by
      rcases mj with z | z
      ·obtain ⟨a,s,_⟩:=R.own j dj z;exact ⟨a,s⟩
      ·obtain ⟨a,s,_⟩:=R.ino j dj z;exact ⟨a,s⟩
     obtain ⟨c,sj⟩:=this;rw [iC sj] at e;subst e;have:=R.sep i j c m ⟨dj,mj⟩ q1 sj;subst this;exact nd'.1 hj
theorem sW:∀ {ms:List PM} {as:List AV} {ds:List PyData},jZ env ms as=some ds->∀ i∈dr ms as,mu env i
 | [],[],_,_,i,h=>by simp [dr] at h
 | [],_ :: _,_,h,_,_=>by cases h
 | _ :: _,[],_,h,_,_=>by cases h
 | m :: ms,a :: as,_,h,i,hi=>by
  obtain ⟨d,r,rfl,h1,h2⟩:=kE h;have ih:=sW h2 i;cases m with
  | dat=>exact ih (by simpa [dr] using hi)
  | bor=>exact ih (by simpa [dr] using hi)
  | ino =>
   cases a with
   | dat d'=>cases h1
   | bor j =>
    simp only [dr,Jo] at hi;rcases hi with rfl | hi
    ·rcases pL h1 with e | e
     ·exact ⟨d,.inl e⟩
     ·exact ⟨d,.inr e⟩
    ·exact ih hi
theorem mH:∀ (env:En) (is:List Nat) (ds:List PyData),SmK env (d4 env is ds)
 | env,[],ds=>by unfold d4;exact SmK.refl _
 | env,i :: is,[]=>by unfold d4;exact SmK.refl _
 | env,i :: is,d :: ds=>by unfold d4;exact (fc env i d).trans (mH _ is ds)
theorem jM:∀ (env:En) (is:List Nat) (ds:List PyData) (j:Nat),j ∉ is->(d4 env is ds)[j]?=env[j]?
 | env,[],ds,j,_=>by unfold d4;rfl
 | env,i :: is,[],j,_=>by unfold d4;rfl
 | env,i :: is,d :: ds,j,h=>by
  unfold d4;have n:j≠i:=fun z=>h (by rw [z];exact IU);rw [jM _ is ds j (fun z=>h (Jb _ z)),lN n]
theorem kZ {G:Addr->Prop}:∀ {env:En} {is:List Nat} {ds:List PyData} {j:Nat} {c:PyData},is.Nodup->(∀ i∈is,mu env i)->je K G H ds (is.map (adr σ))->j∈is->br (d4 env is ds) j=some c->Top K G H c (adr σ j)
 | env,[],ds,j,c,_,_,_,h,_=>by simp at h
 | env,i :: is,[],j,c,_,_,h,_,_=>by simp [je] at h
 | env,i :: is,d :: ds,j,c,nd,hm,h,hj,hc=>by
  obtain ⟨n1,nd'⟩:=J2.mp nd;have h':Top K G H d (adr σ i)/\je K G H ds (is.map (adr σ)):=h;unfold d4 at hc;rcases Jo.mp hj with rfl | hj
  ·have e:=jM (iG env j d) is ds j n1;have:br (iG env j d) j=some c:=by unfold br at hc ⊢;rwa [e] at hc
   rw [kK (hm j IU)] at this;cases this;exact h'.1
  ·exact kZ (env:=iG env i d) nd' (fun k hk=>(fc env i d).symm.kp.mu (hm k (Jb _ hk))) h'.2 hj hc
theorem iV:∀ {is:List Nat},yx is=true->is.Nodup
 | [],_=>List.nodup_nil
 | x :: xs,h=>by
  have h':xs.contains x=false/\yx xs=true:=by simpa [yx] using h
  exact J2.mpr ⟨fun z=>by simp [z] at h',iV h'.2⟩
theorem zW {is bs:List Nat} {n:Nat} (h:ckA is bs n=true):is.Nodup/\(∀ i∈bs,i ∉ is)/\n=is.length:=by
 unfold ckA at h;simp only [JL,KZ,JD] at h;exact ⟨iV h.1,fun i hi z=>by have:=h.2.1 i hi;simp [z] at this,h.2.2⟩
theorem s_call {f:Fn} {as:XA} (ih:SA K ga gd as):SE K ga gd (.call f as):=by
 intro env rv env' h F0 H₀ I σ H Q R q;simp only [dE] at h;split at h
 ·rename_i avs e1 h1;unfold wH at h;split at h
  ·cases h
  ·rename_i ds h2;split at h
   ·cases h
   ·rename_i pr outs h3;split at h
    ·rename_i hc;obtain ⟨nd,hb,hl⟩:=zW hc;cases h;refine ih _ _ _ h1 F0 H₀ I σ H _ R fun vs H1 R1 k1 a1=>?_;show fo f K (vs++[]) H1 Q NoE;rw [JV];have hmu:=sW h2;refine ⟨FF F0 e1 σ,ds,(dr f.ms avs).map (adr σ),pr,outs,h3,Dw R1 (dr f.ms avs) hmu h2 a1 nd hb (fun _ z=>z),fun b z=>R1.ft z,fun v H2 hk hr=>?_⟩;have k:=mH e1 (dr f.ms avs) outs;have eF:=k.ff (F0:=F0) (σ:=σ);have eI:=k.ia (σ:=σ);have isIA:∀ b,b∈(dr f.ms avs).map (adr σ)->IA e1 σ b:=fun b hb=>by
      obtain ⟨i,hi,e⟩:=JB.mp hb;obtain ⟨d,m'⟩:=hmu i hi;have:∃ a,σ[i]?=some (some (.ref a)):=by
       rcases m' with z | z
       ·obtain ⟨a,s,_⟩:=R1.own i d z;exact ⟨a,s⟩
       ·obtain ⟨a,s,_⟩:=R1.ino i d z;exact ⟨a,s⟩
      obtain ⟨a,s⟩:=this;rw [iC s] at e;subst e;exact ⟨i,hmu i hi,s⟩
     have hk':∀ b o,H1 b=some o->¬IA e1 σ b->H2 b=some o:=fun b o e n=>hk b o e fun z=>n (isIA b z);have nE:∀ j d a,j ∉ dr f.ms avs->br (d4 e1 (dr f.ms avs) outs) j=some d->σ[j]?=some (some (.ref a))->br e1 j=some d/\a ∉ (dr f.ms avs).map (adr σ):=fun j d a hj hm hs=>by
      have hm':br e1 j=some d:=by unfold br at hm ⊢;rwa [jM _ _ _ _ hj] at hm
      refine ⟨hm',fun z=>?_⟩;obtain ⟨i,hi,e⟩:=JB.mp z;obtain ⟨i',m2,s2⟩:=isIA a z;obtain ⟨di,mi⟩:=hmu i hi;have:∃ a,σ[i]?=some (some (.ref a)):=by
       rcases mi with z | z
       ·obtain ⟨a,s,_⟩:=R1.own i di z;exact ⟨a,s⟩
       ·obtain ⟨a,s,_⟩:=R1.ino i di z;exact ⟨a,s⟩
      obtain ⟨c,sc⟩:=this;rw [iC sc] at e;subst e;have:=R1.sep j i c (R1.dX hm').1 ⟨di,mi⟩ hs sc;subst this;exact hj hi
     cases pr with
     | dat d =>
      obtain ⟨hd,ht⟩:=hr;refine q v H2 (R1.chg k hk' fun j c a hm hs=>?_) (k1.trans k.kp) (show Dm K _ H2 d v by rw [eF];exact hd);by_cases hj:j∈dr f.ms avs
      ·have:=kZ nd hmu ht hj hm
       rwa [iC hs] at this
      ·obtain ⟨hm',ha⟩:=nE j c a hj hm hs;obtain ⟨_,a',s',_,t'⟩:=R1.dX hm';rw [hs] at s';cases s';exact t'.pr (R1.qe hk') (fun _ z=>z) fun o e=>hk a o e ha
     | frs d =>
      obtain ⟨c,ev,hn,td,ht⟩:=hr;obtain ⟨o,ho,_⟩:=td.wr;have sm:bf H1 (upd H1 c o):=bf.nw o hn;have R1c:=R1.fresh (c:=c) hn sm (by rw [aF];exact nofun);have cIA:¬IA e1 σ c:=fun z=>by obtain ⟨o',z,_⟩:=R1.iaT z;rw [hn] at z;cases z
      have hkc:∀ b o',upd H1 c o b=some o'->¬IA e1 σ b->H2 b=some o':=fun b o' e n=>by
       by_cases z:b=c
       ·subst z;rw [aF] at e;cases e;exact ho
       ·rw [ay z] at e;exact hk' b o' e n
      have pF:Pr (fun b=>FF F0 e1 σ b\/b=c) H1 H2:=fun b o' e n=>hk' b o' e fun y=>by
       rcases n with n | n
       ·exact n (.inl (R1.ia y))
       ·obtain ⟨o2,h2,w2⟩:=R1.iaT y;rw [e] at h2;cases h2;rw [n] at w2;cases w2
      have R2c:Rel K (fun b=>F0 b\/b=c) H₀ I (d4 e1 (dr f.ms avs) outs) σ H2:=by
       refine R1c.chg k hkc fun j c' a hm hs=>?_;rw [gp];by_cases hj:j∈dr f.ms avs
       ·have:=kZ nd hmu ht hj hm
        rwa [iC hs] at this
       ·obtain ⟨hm',ha⟩:=nE j c' a hj hm hs;obtain ⟨_,a',s',_,t'⟩:=R1.dX hm';rw [hs] at s';cases s';exact (t'.fresh hn).pr pF (fun _ z=>z) fun o e=>hk a o e ha
      have nino:∀ (i:Nat) (d':PyData),(d4 e1 (dr f.ms avs) outs)[i]?=some (.ino d')->σ[i]?≠some (some (.ref c)):=fun i d' e' z=>cIA ⟨i,k.kp.mu ⟨d',.inr e'⟩,z⟩;have rv:fk K F0 H₀ I (d4 e1 (dr f.ms avs) outs) σ H2 (.frs d) v:=by
       refine ⟨c,ev,R2c,by rw [eF];exact td,R1.oi (.inl hn),fun z=>?_,nino,fun i d' e'=>?_⟩
       ·rw [eF] at z;exact R1.ft z hn
       ·have e0:e1[i]?=some (.ro d'):=by
         rcases k.2 i with y | ⟨_,_,_,y⟩ | ⟨_,_,_,y⟩
         ·rw [<- y];exact e'
         ·rw [e'] at y;cases y
         ·rw [e'] at y;cases y
        obtain ⟨b,s,t⟩:=R1.ro i d' e0;rw [eF,eI];exact ⟨b,s,((t.fresh hn).xD hn).pr pF (fun _ z=>z) (fun _ z=>z) fun b o' e n=>hk' b o' e fun z=>n (.inl z)⟩
      exact q v H2 rv.rel (k1.trans k.kp) rv
    ·cases h
 ·cases h
theorem FL {as:XA} (ih:SA K ga gd as):SE K ga gd (.tup as):=by
 intro env rv env' h F0 H₀ I σ H Q R q;simp only [dE] at h;split at h
 ·rename_i avs e1 h1;split at h
  ·rename_i ds h2;split at h
   ·rename_i hl;cases h;refine ih _ _ _ h1 F0 H₀ I σ H _ R fun vs H1 R1 k1 a1=>?_;have dl:=a1.Ga h2;have hl':vs.length<=sizeLine:=by rw [dl.len];exact hl
    refine ⟨hl',fun p hp=>?_⟩;have s:=bf.nw (.tup vs) hp;exact q _ _ (R1.same s) k1 ⟨p,vs,rfl,.inl (.inl aF),hl',dl.pr (Pr.of_same s) fun _ z=>z⟩
   ·cases h
  ·cases h
 ·cases h
theorem FZ {as:XA} (ih:SA K ga gd as):SE K ga gd (.lst as):=by
 intro env rv env' h F0 H₀ I σ H Q R q;simp only [dE] at h;split at h
 ·rename_i avs e1 h1;split at h
  ·rename_i ds h2;split at h
   ·rename_i hl;cases h;refine ih _ _ _ h1 F0 H₀ I σ H _ R fun vs H1 R1 k1 a1=>?_;have dl:=a1.Ga h2;have hl':vs.length<=sizeLine:=by rw [dl.len];exact hl
    refine ⟨hl',fun p hp=>?_⟩;have s:=bf.nw (.lst vs) hp;exact q _ _ (R1.same s) k1 (R1.mJ (pr:=.frs (.list ds)) s ⟨p,rfl,hp,vs,aF,hl',(dl.fresh hp).pr (Pr.of_same s) fun _ z=>z⟩)
   ·cases h
  ·cases h
 ·cases h
theorem EM {as:XA} (ih:SF K ga gd as):SE K ga gd (.fst as):=by
 intro env rv env' h F0 H₀ I σ H Q R q;simp only [dE] at h;split at h
 ·rename_i x e1 h1;cases h;exact ih _ _ _ _ h1 F0 H₀ I σ H _ R (show PyData.strOk ⟨#[]⟩=true by simp [PyData.strOk]) fun H1 R1 k1 hl ho=>q _ H1 R1 k1 ⟨rfl,hl,ho⟩
 ·cases h
theorem EX:SF K ga gd .nil:=by
 intro out env x env' h F0 H₀ I σ H Q R ok q;simp only [dF] at h;split at h
 ·rename_i hl;cases h;exact ⟨hl,q H R (KpE.refl _) hl ok⟩
 ·cases h
theorem CM {e:XE} {r:XA} (ie:SE K ga gd e) (ir:SF K ga gd r):SF K ga gd (.cons e r):=by
 intro out env x env' h F0 H₀ I σ H Q R ok q;simp only [dF] at h;split at h
 ·rename_i y e1 h1;split at h
  ·rename_i hl;refine ie _ _ _ h1 F0 H₀ I σ H _ R fun v H1 R1 k1 a1=>?_;obtain ⟨rfl,_,oky⟩:=(show v=.str y/\y.length<=sizeLine/\PyData.strOk y=true from a1);refine ⟨y,rfl,hl,?_⟩;exact ir _ _ _ _ h F0 H₀ I σ H1 _ R1 (mK ok oky) fun H2 R2 k2 hx=>q H2 R2 (k1.trans k2) hx
  ·cases h
 ·cases h
theorem Fo:SA K ga gd .nil:=by
 intro env rv env' h F0 H₀ I σ H Q R q;simp only [dA] at h;cases h;exact q [] H R (KpE.refl _) rfl
theorem Ax {e:XE} {r:XA} (ie:SE K ga gd e) (ir:SA K ga gd r):SA K ga gd (.cons e r):=by
 intro env rv env' h F0 H₀ I σ H Q R q;simp only [dA] at h;split at h
 ·rename_i rv0 e1 h1;split at h
  ·rename_i avs e2 h2;cases h;refine ie _ _ _ h1 F0 H₀ I σ H _ R fun v H1 R1 k1 a1=>?_;refine ir _ _ _ h2 F0 _ _ σ H1 _ R1.rebase fun vs H2 S2 k2 a2=>?_;exact q (v :: vs) H2 (R1.bN S2) (k1.trans k2) ⟨v,vs,rfl,a1.av.keep R1 S2 k2,a2⟩
  ·cases h
 ·cases h
end
end L2
end
section
namespace L2
open PySem
section
variable {K:Fg} {F F' I I' F0:Addr->Prop} {H H' H₀:Hp} {env env':En} {σ σ':St} {ga:Nat->V} {gd:List PyData}
theorem FO {c:XT} {a b:XE} (ic:ST K ga gd c) (ia:SE K ga gd a) (ib:SE K ga gd b):SE K ga gd (.ifx c a b):=by
 intro env rv env' h F0 H₀ I σ H Q R q;simp only [dE] at h;split at h
 ·rename_i e1 h1;refine ic _ _ _ h1 F0 H₀ I σ H _ R fun H1 R1 k1=>?_;rw [IX rfl];exact ia _ _ _ h F0 H₀ I σ H1 _ R1 fun v H2 R2 k2 r=>q v H2 R2 (k1.trans k2) r
 ·rename_i e1 h1;refine ic _ _ _ h1 F0 H₀ I σ H _ R fun H1 R1 k1=>?_;rw [IV (by decide)];exact ib _ _ _ h F0 H₀ I σ H1 _ R1 fun v H2 R2 k2 r=>q v H2 R2 (k1.trans k2) r
 ·cases h
theorem C0 {a b:XE} (ia:SE K ga gd a) (ib:SE K ga gd b):SE K ga gd (.qp a b):=by
 intro env rv env' h F0 H₀ I σ H Q R q;simp only [dE] at h;split at h
 ·rename_i e1 h1;refine ia _ _ _ h1 F0 H₀ I σ H _ R fun v H1 R1 k1 r1=>⟨true,r1,?_⟩;rw [IX rfl];exact ib _ _ _ h F0 H₀ I σ H1 _ R1 fun v H2 R2 k2 r=>q v H2 R2 (k1.trans k2) r
 ·rename_i e1 h1;cases h;refine ia _ _ _ h1 F0 H₀ I σ H _ R fun v H1 R1 k1 r1=>⟨false,r1,?_⟩;rw [IV (by decide)];exact q _ H1 R1 k1 rfl
 ·cases h
theorem FV {a b:XE} (ia:SE K ga gd a) (ib:SE K ga gd b):SE K ga gd (.orv a b):=by
 intro env rv env' h F0 H₀ I σ H Q R q;simp only [dE] at h;split at h
 ·rename_i e1 h1;cases h;refine ia _ _ _ h1 F0 H₀ I σ H _ R fun v H1 R1 k1 r1=>⟨true,r1,?_⟩;rw [IX rfl];exact q _ H1 R1 k1 rfl
 ·rename_i e1 h1;refine ia _ _ _ h1 F0 H₀ I σ H _ R fun v H1 R1 k1 r1=>⟨false,r1,?_⟩;rw [IV (by decide)];exact ib _ _ _ h F0 H₀ I σ H1 _ R1 fun v H2 R2 k2 r=>q v H2 R2 (k1.trans k2) r
 ·cases h
theorem Dc {a:XE} (ia:SE K ga gd a):SE K ga gd (.Ah a):=by
 intro env rv env' h F0 H₀ I σ H Q R q;simp only [dE] at h;split at h
 ·rename_i x e1 h1;cases h;exact ia _ _ _ h1 F0 H₀ I σ H _ R fun v H1 R1 k1 r1=>⟨x,r1,q _ H1 R1 k1 rfl⟩
 ·cases h
theorem ED {x y:PyData} {u v:V} (hx:Vw K F H x u) (hy:Vw K F H y v):VwL K F H [x,y] [u,v]:=⟨u,[v],rfl,hx,v,[],rfl,hy,rfl⟩
theorem EL {p p':Prm} {a b c:XE} (ia:SE K ga gd a) (ib:SE K ga gd b) (ic:SE K ga gd c):SE K ga gd (.chn p p' a b c):=by
 intro env rv env' h F0 H₀ I σ H Q R q;simp only [dE] at h;split at h
 ·rename_i ra e1 h1;split at h
  ·rename_i rb e2 h2;split at h
   ·rename_i x y hx hy;refine ia _ _ _ h1 F0 H₀ I σ H _ R fun v H1 R1 k1 r1=>?_;refine ib _ _ _ h2 F0 _ _ σ H1 _ R1.rebase fun u H2 S2 k2 r2=>?_;have R2:=R1.bN S2;have a1:=r1.av.keep R1 S2 k2;have a2:=r2.av;rw [hx] at a1;rw [hy] at a2;have dx:Dm K (FF F0 e2 σ) H2 x v:=a1;have dy:Dm K (FF F0 e2 σ) H2 y u:=a2;split at h
    ·rename_i hp;split at h
     ·rename_i rc e3 h3;split at h
      ·rename_i z hz;split at h
       ·rename_i pr hq;cases h;refine p.ok K _ H2 _ _ _ _ hp (ED dx.vw dy.vw) (fun b z=>R2.ft z) fun w H3 s3 hw=>⟨true,hw,?_⟩;rw [IX rfl];have R3:=R2.same s3;have dy3:Dm K (FF F0 e2 σ) H3 y u:=dy.pr (Pr.of_same s3) fun _ z=>z;refine ic _ _ _ h3 F0 _ _ σ H3 _ R3.rebase fun t H4 S4 k4 r4=>?_;have R4:=R3.bN S4;have a4:=r4.av;rw [hz] at a4;have dz:Dm K (FF F0 env' σ) H4 z t:=a4;refine p'.ok K _ H4 _ _ _ _ hq (ED (R3.pU S4 k4 dy3).vw dz.vw) (fun b z=>R4.ft z) fun w H5 s5 hw=>?_;exact q w H5 (R4.same s5) ((k1.trans k2).trans k4) (R4.mJ s5 hw)
       ·cases h
      ·cases h
     ·cases h
    ·rename_i hp;cases h;refine p.ok K _ H2 _ _ _ _ hp (ED dx.vw dy.vw) (fun b z=>R2.ft z) fun w H3 s3 hw=>⟨false,hw,?_⟩;rw [IV (by decide)];exact q _ H3 (R2.same s3) (k1.trans k2) rfl
    ·cases h
   ·cases h
  ·cases h
 ·cases h
theorem F3 {p:Int->Int->Prm} {a b c:XE} (ia:SE K ga gd a) (ib:SE K ga gd b) (ic:SE K ga gd c):SE K ga gd (.sl2 p a b c):=by
 intro env rv env' h F0 H₀ I σ H Q R q;simp only [dE] at h;split at h
 ·rename_i ra e1 h1;split at h
  ·rename_i i e2 h2;split at h
   ·rename_i j e3 h3;split at h
    ·rename_i d hv;split at h
     ·rename_i pr hp;cases h;refine ia _ _ _ h1 F0 H₀ I σ H _ R fun v H1 R1 k1 r1=>?_;refine ib _ _ _ h2 F0 _ _ σ H1 _ R1.rebase fun u H2 S2 k2 r2=>⟨i,r2,?_⟩;have R2:=R1.bN S2;have a1:=r1.av.keep R1 S2 k2;refine ic _ _ _ h3 F0 _ _ σ H2 _ R2.rebase fun w H3 S3 k3 r3=>⟨j,r3,?_⟩;have R3:=R2.bN S3;have a2:=a1.keep R2 S3 k3;refine (p i j).ok K _ H3 [d] [v] pr Q hp ⟨v,[],rfl,a2.vw R3 hv,rfl⟩ (fun b z=>R3.ft z) fun w H4 s4 hw=>?_;exact q w H4 (R3.same s4) ((k1.trans k2).trans k3) (R3.mJ s4 hw)
     ·cases h
    ·cases h
   ·cases h
  ·cases h
 ·cases h
theorem D6 {e:XE} (ie:SE K ga gd e):ST K ga gd (.tst e):=by
 intro env b env' h F0 H₀ I σ H Q R q;simp only [dT] at h;split at h
 ·rename_i x e1 h1;cases h;exact ie _ _ _ h1 F0 H₀ I σ H _ R fun v H1 R1 k1 r1=>⟨_,r1,q H1 R1 k1⟩
 ·cases h
theorem ko {ds:List PyData} {vs:List V} (h:DmL K F H ds vs):vs.isEmpty=ds.isEmpty:=by
 cases ds with
 | nil=>rw [show vs=[] from h];rfl
 | cons d ds=>obtain ⟨v,r,rfl,_⟩:=h;rfl
theorem Vw.tru {d:PyData} {v:V} (h:Vw K F H d v) (nd:D5 d≠true):E4 K v H (GQ d):=by
 cases d with
 | none=>rw [show v=.non from h];rfl
 | bool b=>rw [show v=.bl b from h];rfl
 | int i=>rw [show v=.int i from h];rfl
 | str x=>obtain ⟨rfl,hl,_⟩:=(show v=.str x/\x.length<=sizeLine/\PyData.strOk x=true from h);exact ⟨hl,rfl⟩
 | list ds=>obtain ⟨a,rfl,xs,e,_,r⟩:=h;exact .inl ⟨xs,e,by rw [ko r];rfl⟩
 | tuple ds=>obtain ⟨a,xs,rfl,e,_,r⟩:=h;exact .inr (.inl ⟨xs,e,by rw [ko r];rfl⟩)
 | dict ds=>exact absurd rfl nd
theorem FK {e:XE} (ie:SE K ga gd e):ST K ga gd (.tru e):=by
 intro env b env' h F0 H₀ I σ H Q R q;simp only [dT] at h;split at h
 ·rename_i x e1 h1;split at h
  ·rename_i d h2;split at h
   ·cases h
   ·rename_i nd;cases h;exact ie _ _ _ h1 F0 H₀ I σ H _ R fun v H1 R1 k1 r1=>⟨_,(r1.av.vw R1 h2).tru nd,q H1 R1 k1⟩
  ·cases h
 ·cases h
theorem Fl {a b:XT} (ia:ST K ga gd a) (ib:ST K ga gd b):ST K ga gd (.and a b):=by
 intro env x env' h F0 H₀ I σ H Q R q;simp only [dT] at h;split at h
 ·rename_i e1 h1;refine ia _ _ _ h1 F0 H₀ I σ H _ R fun H1 R1 k1=>?_;rw [IX rfl];exact ib _ _ _ h F0 H₀ I σ H1 _ R1 fun H2 R2 k2=>q H2 R2 (k1.trans k2)
 ·rename_i e1 h1;cases h;refine ia _ _ _ h1 F0 H₀ I σ H _ R fun H1 R1 k1=>?_;rw [IV (by decide)];exact q H1 R1 k1
 ·cases h
theorem IC {a b:XT} (ia:ST K ga gd a) (ib:ST K ga gd b):ST K ga gd (.or a b):=by
 intro env x env' h F0 H₀ I σ H Q R q;simp only [dT] at h;split at h
 ·rename_i e1 h1;cases h;refine ia _ _ _ h1 F0 H₀ I σ H _ R fun H1 R1 k1=>?_;rw [IX rfl];exact q H1 R1 k1
 ·rename_i e1 h1;refine ia _ _ _ h1 F0 H₀ I σ H _ R fun H1 R1 k1=>?_;rw [IV (by decide)];exact ib _ _ _ h F0 H₀ I σ H1 _ R1 fun H2 R2 k2=>q H2 R2 (k1.trans k2)
 ·cases h
theorem GB {a:XT} (ia:ST K ga gd a):ST K ga gd (.not a):=by
 intro env x env' h F0 H₀ I σ H Q R q;simp only [dT] at h;split at h
 ·rename_i b e1 h1;cases h;exact ia _ _ _ h1 F0 H₀ I σ H _ R fun H1 R1 k1=>q H1 R1 k1
 ·cases h
theorem Gp:ST K ga gd .yes:=by
 intro env x env' h F0 H₀ I σ H Q R q;simp only [dT] at h;cases h;exact q H R (KpE.refl _)
theorem xI {a:Addr} {vs:List V} {ds:List PyData} (hd:DmL K F H ds vs) (hl:vs.length<=sizeLine) (h:∀ H',(∀ b o,H b=some o->¬I b->H' b=some o)->SqL K H' a vs):wV K F I H (Itl K a) ds :=
 jF hd hl fun H' k j=>⟨fun hj=>⟨⟨vs,vs[j],h H' k,II hj⟩,fun x H'' y=>⟨y.1,y.2 vs (h H' k)⟩⟩,fun hj=>⟨vs,h H' k,hj⟩⟩
theorem CB {a:Addr} {vs:List V} {ds:List PyData} (hd:DmL K F H ds vs) (hl:vs.length<=sizeLine) (h:∀ H',(∀ b o,H b=some o->¬I b->H' b=some o)->SqT K H' a vs):wV K F I H (Itt K a) ds :=
 jF hd hl fun H' k j=>⟨fun hj=>⟨⟨vs,vs[j],h H' k,II hj⟩,fun x H'' y=>⟨y.1,y.2 vs (h H' k)⟩⟩,fun hj=>⟨vs,h H' k,hj⟩⟩
theorem zg {e:XE} (ie:SE K ga gd e):SI K ga gd (.lst e):=by
 intro env ds lock env' h F0 H₀ I σ H Q R q;simp only [dI] at h;split at h
 ·rename_i rv e1 h1;split at h
  ·rename_i ds' hv;cases h;refine ie _ _ _ h1 F0 H₀ I σ H _ R fun v H1 R1 k1 r1=>?_;have a1:=r1.av;rw [hv] at a1;obtain ⟨a,xs,rfl,l,z,r⟩:=(show Dm K (FF F0 env' σ) H1 (.list ds) v from a1);refine ⟨a,rfl,⟨xs,l.elim (fun q=>.inl q.2) .inr⟩,q _ H1 R1 k1 (fun i z=>by cases z) (xI r z fun H' k=>?_)⟩;rcases l with ⟨n,l | ⟨o,l⟩⟩ | l
   ·exact .inl (.inl (k _ _ l fun z=>n (R1.ia z.1)))
   ·exact .inl (.inr ⟨o,k _ _ l fun z=>n (R1.ia z.1)⟩)
   ·exact .inr l
  ·cases h
  ·rename_i i hv;split at h
   ·rename_i ds' hc;cases h;refine ie _ _ _ h1 F0 H₀ I σ H _ R fun v H1 R1 k1 r1=>?_;have a1:=r1.av;rw [hv] at a1;have s:σ[i]?=some (some v):=a1;unfold cont at hc;have fin:∀ a xs,v=.ref a->DmL K (FF F0 env' σ) H1 ds xs->xs.length<=sizeLine->(∀ H',(∀ b o,H1 b=some o->¬(IA env' σ b/\∀ j,some i=some j->mu env' j->σ[j]?≠some (some (.ref b)))->H' b=some o)->SqL K H' a xs)->(∃ d,cont env' i=some d) ->
      ∃ a,v=.ref a/\(∃ xs,SqL K H1 a xs)/\Q (Itl K a) H1:=fun a xs ev r z k hcd =>
     ⟨a,ev,⟨xs,k H1 fun _ _ e _=>e⟩,q _ H1 R1 k1 (fun j hj=>by cases hj;exact hcd) (xI r z k)⟩
    split at hc
    ·rename_i d e;cases hc;obtain ⟨a,s',_,_,xs,t,z,r⟩:=R1.own i _ e;rw [s] at s';cases s';exact fin a xs rfl r z (fun H' k=>.inl (.inl (k _ _ t fun y=>y.2 i rfl ⟨_,.inl e⟩ s))) ⟨_,by unfold cont;rw [e]⟩
    ·rename_i d e;cases hc;obtain ⟨a,s',_,_,xs,t,z,r⟩:=R1.ino i _ e;rw [s] at s';cases s';exact fin a xs rfl r z (fun H' k=>.inl (.inl (k _ _ t fun y=>y.2 i rfl ⟨_,.inr e⟩ s))) ⟨_,by unfold cont;rw [e]⟩
    ·rename_i d e;cases hc;obtain ⟨a,s',xs,l,z,r⟩:=R1.ro i _ e;rw [s] at s';cases s';refine fin a xs rfl r z (fun H' k=>?_) ⟨_,by unfold cont;rw [e]⟩;rcases l with ⟨n,l | ⟨o,l⟩⟩ | l
     ·exact .inl (.inl (k _ _ l fun z=>n z.1))
     ·exact .inl (.inr ⟨o,k _ _ l fun z=>n z.1⟩)
     ·exact .inr l
    ·cases hc
   ·cases h
 ·cases h
theorem t8:∀ {kvs:List (PyData×PyData)} {xs:List (PyData×V×V)},DmP K F H kvs xs->DmL K F H (kvs.map (·.1)) (xs.map (·.2.1))
 | [],xs,h=>by rw [show xs=[] from h];rfl
 | (k,d) :: kvs,xs,h=>by
  obtain ⟨j,v,r,rfl,_,h0,_,h2⟩:=h;exact ⟨j,_,rfl,h0,t8 h2⟩
theorem xC {a:Addr} {ep:Nat} {xs:List (PyData×V×V)} {kvs:List (PyData×PyData)} (hd:DmP K F H kvs xs) (hl:xs.length<=sizeLine) (h:∀ H':Hp,(∀ b o,H b=some o->¬I b->H' b=some o)->H' a=some (.dD ep xs)):wV K F I H (Itd a ep xs) (kvs.map (·.1)) :=
 jF (vs:=xs.map (·.2.1)) (t8 hd) (by rw [IK];exact hl) fun H' k j=>⟨fun hj=>⟨⟨h H' k,by rw [IK] at hj;exact hj⟩,fun x H'' y=>⟨y.1,by rw [Jd];exact y.2⟩⟩,fun hj=>⟨h H' k,by rw [IK] at hj;exact hj⟩⟩
theorem Fb {e:XE} (ie:SE K ga gd e):SI K ga gd (.dct e):=by
 intro env ds lock env' h F0 H₀ I σ H Q R q;simp only [dI] at h;split at h
 ·rename_i rv e1 h1;split at h
  ·rename_i kvs hv;cases h;refine ie _ _ _ h1 F0 H₀ I σ H _ R fun v H1 R1 k1 r1=>?_;have a1:=r1.av;rw [hv] at a1;obtain ⟨a,ep,xs,rfl,n,l,z,r⟩:=(show Dm K (FF F0 env' σ) H1 (.dict kvs) v from a1);exact ⟨a,ep,xs,rfl,l,q _ H1 R1 k1 (fun i z=>by cases z) (xC r z fun H' k=>k _ _ l fun z=>n (R1.ia z.1))⟩
  ·cases h
  ·rename_i i hv;split at h
   ·rename_i kvs hc;cases h;refine ie _ _ _ h1 F0 H₀ I σ H _ R fun v H1 R1 k1 r1=>?_;have a1:=r1.av;rw [hv] at a1;have s:σ[i]?=some (some v):=a1;unfold cont at hc;have fin:∀ a ep xs,v=.ref a->DmP K (FF F0 env' σ) H1 kvs xs->xs.length<=sizeLine->(∀ H':Hp,(∀ b o,H1 b=some o->¬(IA env' σ b/\∀ j,some i=some j->mu env' j->σ[j]?≠some (some (.ref b)))->H' b=some o)->H' a=some (.dD ep xs))->(∃ d,cont env' i=some d) ->
      ∃ a ep xs,v=.ref a/\H1 a=some (.dD ep xs)/\Q (Itd a ep xs) H1:=fun a ep xs ev r z k hcd =>
     ⟨a,ep,xs,ev,k H1 fun _ _ e _=>e,q _ H1 R1 k1 (fun j hj=>by cases hj;exact hcd) (xC r z k)⟩
    split at hc
    ·rename_i d e;cases hc;obtain ⟨a,s',_,_,ep,xs,t,z,r⟩:=R1.own i _ e;rw [s] at s';cases s';exact fin a ep xs rfl r z (fun H' k=>k _ _ t fun y=>y.2 i rfl ⟨_,.inl e⟩ s) ⟨_,by unfold cont;rw [e]⟩
    ·rename_i d e;cases hc;obtain ⟨a,s',_,_,ep,xs,t,z,r⟩:=R1.ino i _ e;rw [s] at s';cases s';exact fin a ep xs rfl r z (fun H' k=>k _ _ t fun y=>y.2 i rfl ⟨_,.inr e⟩ s) ⟨_,by unfold cont;rw [e]⟩
    ·rename_i d e;cases hc;obtain ⟨a,s',ep,xs,n,l,z,r⟩:=R1.ro i _ e;rw [s] at s';cases s';exact fin a ep xs rfl r z (fun H' k=>k _ _ l fun z=>n z.1) ⟨_,by unfold cont;rw [e]⟩
    ·cases hc
   ·cases h
 ·cases h
theorem CQ {e:XE} (ie:SE K ga gd e):SI K ga gd (.tup e):=by
 intro env ds lock env' h F0 H₀ I σ H Q R q;simp only [dI] at h;split at h
 ·rename_i rv e1 h1;split at h
  ·rename_i ds' hv;cases h;refine ie _ _ _ h1 F0 H₀ I σ H _ R fun v H1 R1 k1 r1=>?_;have a1:=r1.av;rw [hv] at a1;obtain ⟨a,xs,rfl,l,z,r⟩:=(show Dm K (FF F0 env' σ) H1 (.tuple ds) v from a1);refine ⟨a,rfl,⟨xs,l⟩,q _ H1 R1 k1 (fun i z=>by cases z) (CB r z fun H' k=>?_)⟩;exact l.pr (R1.qe fun b o e n=>k b o e fun z=>n z.1)
  ·cases h
 ·cases h
theorem HS {e:XE} (ie:SE K ga gd e):SI K ga gd (.sq e):=by
 intro env ds lock env' h F0 H₀ I σ H Q R q;simp only [dI] at h;split at h
 ·rename_i rv e1 h1;split at h
  ·rename_i ds' hv;exact .inl (zg ie env ds lock env' (by simp only [dI,h1,hv];exact h) F0 H₀ I σ H Q R q)
  ·rename_i ds' hv;exact .inr (CQ ie env ds lock env' (by simp only [dI,h1,hv];exact h) F0 H₀ I σ H Q R q)
  ·cases h
  ·rename_i i hv;exact .inl (zg ie env ds lock env' (by simp only [dI,h1,hv];exact h) F0 H₀ I σ H Q R q)
 ·cases h
theorem zp:∀ {cs:List Nat},(∀ c∈cs,c < 0x110000)->DmL K F H (cs.map fun c=>.str ⟨#[c]⟩) (cs.map fun c=>.str ⟨#[c]⟩)
 | [],_=>rfl
 | c :: cs,h=>⟨_,_,rfl,⟨rfl,by show 1<=sizeLine;decide,by have:=h c IU;simp [PyData.strOk,this]⟩,zp fun x hx=>h x (Jb _ hx)⟩
theorem gr {x:Str} (h:PyData.strOk x=true):∀ c∈x.cps.toList,c < 0x110000:=fun c hc=>by
 unfold PyData.strOk at h;have:=Array.all_eq_true'.mp h c (by simpa using hc);simpa using this
theorem E6 {e:XE} (ie:SE K ga gd e):SI K ga gd (.str e):=by
 intro env ds lock env' h F0 H₀ I σ H Q R q;simp only [dI] at h;split at h
 ·rename_i rv e1 h1;split at h
  ·rename_i x hv;cases h;refine ie _ _ _ h1 F0 H₀ I σ H _ R fun v H1 R1 k1 r1=>?_;have a1:=r1.av;rw [hv] at a1;obtain ⟨rfl,hl,ok⟩:=(show v=.str x/\x.length<=sizeLine/\PyData.strOk x=true from a1);have ez:x.cps.toList.length=x.length:=by simp [Str.length]
   refine ⟨x,rfl,q _ H1 R1 k1 (fun i z=>by cases z) (jF (zp (gr ok)) (by rw [IK,ez];exact hl) fun H' k j=>⟨fun hj=>?_,fun hj=>?_⟩)⟩
   ·rw [IK,ez] at hj;refine ⟨hj,fun y H'' hy=>?_⟩;obtain ⟨e,c,hc,rfl⟩:=hy;refine ⟨e,?_⟩;rw [Jd];have:x.cps.toList[j]?=some c:=by rw [<- hc];simp
    rw [this];rfl
   ·rw [IK,ez] at hj;exact hj
  ·cases h
 ·cases h
theorem xN {f:Nat->Int}:∀ {cs:List Nat},DmL K F H (cs.map fun c=>.int (f c)) (cs.map fun c=>.int (f c))
 | []=>rfl
 | c :: cs=>⟨_,_,rfl,rfl,xN⟩
theorem xf {lo:Int} {n:Nat} (hn:n<=sizeLine):wV K F I H (Itr lo n) ((List.range n).map fun (k:Nat)=>.int (lo+(k:Int))):=by
 refine jF (vs:=(List.range n).map fun (k:Nat)=>.int (lo+(k:Int))) (xN (f:=fun k=>lo+(k:Int))) (by rw [IK,J5];exact hn) fun H' k j=>⟨fun hj=>?_,fun hj=>?_⟩
 ·rw [IK,J5] at hj;refine ⟨hj,fun y H'' hy=>⟨hy.1,?_⟩⟩;rw [Jd,List.getElem?_range hj,hy.2];rfl
 ·rw [IK,J5] at hj;exact hj
theorem De {as:XA} (ia:SA K ga gd as):SI K ga gd (.rng1 as):=by
 intro env ds lock env' h F0 H₀ I σ H Q R q;simp only [dI] at h;split at h
 ·rename_i avs e1 h1;split at h
  ·rename_i j;split at h
   ·rename_i hj;cases h;refine ia _ _ _ h1 F0 H₀ I σ H _ R fun vs H1 R1 k1 a1=>?_;obtain ⟨v,r,rfl,hv,rfl⟩:=a1;have hv:v=.int j:=hv;subst hv;refine ⟨j,rfl,hj.1,by have:=hj.2;omega,q _ H1 R1 k1 (fun i z=>by cases z) (xf ?_)⟩;have:=hj.2;show j.toNat<=2 ^ 24;omega
   ·cases h
  ·cases h
 ·cases h
theorem Bo {a b:Addr} {xs ys:List V} {ds es:List PyData} (hd:DmL K F H ds xs) (he:DmL K F H es ys) (hl:xs.length<=sizeLine) (h1:∀ H',(∀ b o,H b=some o->¬I b->H' b=some o)->SqL K H' a xs) (h2:∀ H',(∀ b o,H b=some o->¬I b->H' b=some o)->SqL K H' b ys):wV K F I H (Itz K a b xs ys) ((ds.zip es).map fun p=>.tuple [p.1,p.2]):=by
 have e1:=hd.len;have e2:=he.len;have el:((ds.zip es).map fun p=>PyData.tuple [p.1,p.2]).length=min xs.length ys.length:=by rw [IK,List.length_zip,e1,e2]
 refine ⟨by rw [el];omega,fun H' k j=>⟨fun hj=>?_,fun hj=>?_⟩⟩
 ·rw [el] at hj;refine ⟨⟨h1 H' k,h2 H' k,by omega,by omega⟩,?_⟩;rintro x H'' ⟨p,u,v,hp,rfl,hu,hv,rfl⟩;obtain ⟨d,d1,d2⟩:=hd.get' hu;obtain ⟨e,e3,e4⟩:=he.get' hv;refine ⟨.tuple [d,e],?_,.inr ⟨p,u,v,d,e,rfl,rfl,hp,rfl,d2,e4⟩⟩;rw [Jd,show (ds.zip es)[j]?=some (d,e) from List.getElem?_zip_eq_some.mpr ⟨d1,e3⟩];rfl
 ·rw [el] at hj;exact ⟨h1 H' k,h2 H' k,by omega⟩
theorem Gk {as:XA} (ia:SA K ga gd as):SI K ga gd (.zip as):=by
 intro env ds lock env' h F0 H₀ I σ H Q R q;simp only [dI] at h;split at h
 ·rename_i avs e1 h1;split at h
  ·rename_i x y;split at h
   ·rename_i xs ys hx hy;cases h;refine ia _ _ _ h1 F0 H₀ I σ H _ R fun vs H1 R1 k1 a1=>?_;obtain ⟨v,r,rfl,hv,w,r2,rfl,hw,rfl⟩:=a1;have one:∀ {x:AV} {xs:List PyData} {v:V},roL env' x=some xs->xV K F0 env' σ H1 x v->∃ a us,v=.ref a/\us.length<=sizeLine/\DmL K (FF F0 env' σ) H1 xs us/\∀ H',(∀ b o,H1 b=some o->¬(IA env' σ b/\∀ i,none=some i->mu env' i->σ[i]?≠some (some (.ref b)))->H' b=some o)->SqL K H' a us:=by
     intro x xs v hx hv;unfold roL at hx;split at hx
     ·cases hx;obtain ⟨a,us,rfl,l,z,r⟩:=(show Dm K (FF F0 env' σ) H1 (.list xs) v from hv);refine ⟨a,us,rfl,z,r,fun H' k=>?_⟩;rcases l with ⟨n,l | ⟨o,l⟩⟩ | l
      ·exact .inl (.inl (k _ _ l fun z=>n (R1.ia z.1)))
      ·exact .inl (.inr ⟨o,k _ _ l fun z=>n (R1.ia z.1)⟩)
      ·exact .inr l
     ·rename_i i;split at hx
      ·rename_i e;cases hx;have s:σ[i]?=some (some v):=hv;obtain ⟨a,s',us,l,z,r⟩:=R1.ro i _ e;rw [s] at s';cases s';refine ⟨a,us,rfl,z,r,fun H' k=>?_⟩;rcases l with ⟨n,l | ⟨o,l⟩⟩ | l
       ·exact .inl (.inl (k _ _ l fun z=>n z.1))
       ·exact .inl (.inr ⟨o,k _ _ l fun z=>n z.1⟩)
       ·exact .inr l
      ·cases hx
     ·cases hx
    obtain ⟨a,us,rfl,za,ra,sa⟩:=one hx hv;obtain ⟨b,ws,rfl,zb,rb,sb⟩:=one hy hw;exact ⟨a,b,us,ws,rfl,sa H1 fun _ _ e _=>e,sb H1 fun _ _ e _=>e,q _ H1 R1 k1 (fun i z=>by cases z) (Bo ra rb za sa sb)⟩
   ·cases h
  ·cases h
 ·cases h
theorem BV {as:XA} (ia:SA K ga gd as):SI K ga gd (.rng2 as):=by
 intro env ds lock env' h F0 H₀ I σ H Q R q;simp only [dI] at h;split at h
 ·rename_i avs e1 h1;split at h
  ·rename_i i j;split at h
   ·rename_i hj;cases h;refine ia _ _ _ h1 F0 H₀ I σ H _ R fun vs H1 R1 k1 a1=>?_;obtain ⟨v,r,rfl,hv,w,r2,rfl,hw,rfl⟩:=a1;have hv:v=.int i:=hv;have hw:w=.int j:=hw;subst hv hw;refine ⟨i,j,rfl,⟨hj.1,hj.2.1,hj.2.2.1,hj.2.2.2.1⟩,q _ H1 R1 k1 (fun i z=>by cases z) (xf ?_)⟩;have:=hj.2.2.2.2;show (j - i).toNat<=2 ^ 24;omega
   ·cases h
  ·cases h
 ·cases h
end
end L2
end
section
namespace L2
open PySem
section
variable {K:Fg} {F F' I I' F0:Addr->Prop} {H H' H₀:Hp} {env env':En} {σ σ':St} {ga:Nat->V} {gd:List PyData}
theorem fk.carry {d:PyData} {p:Addr} (h:fk K F0 H₀ I env σ H (.frs d) (.ref p)) (S:Rel K (fun b=>F0 b\/b=p) H (IA env σ) env' σ H') (k:KpE env env'):fk K F0 H₀ I env' σ H' (.frs d) (.ref p):=by
 obtain ⟨a,ea,R,t,w,nF,hi,hr⟩:=h;cases ea;have cIA:¬IA env σ p:=fun z=>by
  obtain ⟨i,⟨c,e | e⟩,s⟩:=z
  ·exact nF (.inr ⟨i,c,e,s⟩)
  ·exact hi i c e s
 have R':=R.bN S;have hk:∀ b o,H b=some o->¬IA env σ b->H' b=some o:=S.d5;have pF:Pr (fun b=>FF F0 env σ b\/b=p) H H':=by
  have:=R.qe hk
  rwa [gp] at this
 have hf:∀ b,(FF F0 env' σ b\/b=p)->(FF F0 env σ b\/b=p):=fun b z=>z.imp (fun z=>k.ff z) id;refine ⟨p,rfl,R',t.pr pF hf fun o e=>hk p o e cIA,w,fun z=>nF (k.ff z),fun i c e s=>cIA ⟨i,k.mu ⟨c,.inr e⟩,s⟩,fun i c e=>?_⟩;obtain ⟨s,e0,ev⟩:=k.back e;have es:s=.ro c:=by
  cases s with
  | un=>cases ev
  | dat _=>cases ev
  | own _=>rcases ev with ⟨_,v⟩ | ⟨_,v⟩ | v <;> cases v
  | ino _=>obtain ⟨_,v⟩:=ev;cases v
  | ro d'=>cases ev;rfl
 subst es;obtain ⟨b,q,t'⟩:=hr i c e0;exact ⟨b,q,t'.pr pF hf (fun b z=>z.imp (fun z=>k.ia z) id) fun b o e n=>hk b o e fun z=>n (.inl z)⟩
theorem fk.put {d d':PyData} {p:Addr} {o:HO} (h:fk K F0 H₀ I env σ H (.frs d) (.ref p)) (ht:Top K (fun b=>FF F0 env σ b\/b=p) (upd H p o) d' p):fk K F0 H₀ I env σ (upd H p o) (.frs d') (.ref p):=by
 obtain ⟨a,ea,R,t,w,nF,hi,hr⟩:=h;cases ea;have cIA:¬IA env σ p:=fun z=>by
  obtain ⟨i,⟨c,e | e⟩,s⟩:=z
  ·exact nF (.inr ⟨i,c,e,s⟩)
  ·exact hi i c e s
 have pF:Pr (fun b=>FF F0 env σ b\/b=p) H (upd H p o):=fun b u e n=>by
  by_cases z:b=p
  ·subst z;rcases n with n | n
   ·exact absurd (.inr rfl) n
   ·obtain ⟨o',h',w'⟩:=t.wr;rw [e] at h';cases h';rw [n] at w';cases w'
  ·rw [ay z];exact e
 have eF:FF (fun b=>F0 b\/b=p) env σ=fun b=>FF F0 env σ b\/b=p:=gp;have nea:∀ i b,mu env i->σ[i]?=some (some (.ref b))->b≠p:=fun i b m s z=>cIA (z▸⟨i,m,s⟩);have hro:∀ (i:Nat) (d':PyData),env[i]?=some (.ro d')->∃ b,σ[i]?=some (some (.ref b))/\gn K (fun b=>FF F0 env σ b\/b=p) (fun b=>IA env σ b\/b=p) (upd H p o) d' b:=fun i c e=>by
  obtain ⟨b,q,t'⟩:=hr i c e;exact ⟨b,q,t'.pr pF (fun _ z=>z) (fun _ z=>z) fun b u e n=>by rw [ay (fun z=>n (.inr z))];exact e⟩
 refine ⟨p,rfl,⟨R.len,fun i c e=>?_,fun i c e=>?_,fun i c e=>?_,fun i c e=>?_,R.sep,fun b hb=>?_,fun b u e n=>?_⟩,ht,w,nF,hi,hro⟩
 ·obtain ⟨v,s,r⟩:=R.dat i c e;rw [eF] at r ⊢;exact ⟨v,s,r.pr pF fun _ z=>z⟩
 ·obtain ⟨b,s,n,w',t'⟩:=R.own i c e;rw [eF] at t' ⊢;exact ⟨b,s,n,w',t'.pr pF (fun _ z=>z) fun u e'=>by rw [ay (nea i b ⟨c,.inl e⟩ s)];exact e'⟩
 ·obtain ⟨b,s,n,w',t'⟩:=R.ino i c e;rw [eF] at t' ⊢;exact ⟨b,s,n,w',t'.pr pF (fun _ z=>z) fun u e'=>by rw [ay (nea i b ⟨c,.inr e⟩ s)];exact e'⟩
 ·obtain ⟨b,s,t'⟩:=hro i c e;rw [eF];exact ⟨b,s,t'.pr Pr.refl (fun _ z=>z) (fun _ z=>.inl z) fun _ _ z _=>z⟩
 ·by_cases z:b=p
  ·subst z;rw [aF];exact nofun
  ·rw [ay z];exact R.dom b hb
 ·have:=R.d5 b u e n;by_cases z:b=p
  ·subst z;rcases w with w | w
   ·rw [e] at w;cases w
   ·exact absurd w n
  ·rw [ay z];exact this
theorem xO (a b:Key):PyData.eqv (kD a) (kD b)=decide (a=b):=by
 cases a with
 | inl i=>cases b with
  | inl j=>by_cases z:i=j <;> simp [kD,PyData.eqv,z]
  | inr y=>simp [kD,PyData.eqv]
 | inr x=>cases b with
  | inl j=>simp [kD,PyData.eqv]
  | inr y=>by_cases z:x=y <;> simp [kD,PyData.eqv,z]
theorem yb {k:PyData}:∀ {ds:List (PyData×PyData)} {xs:List (PyData×V×V)},DmP K F H ds xs->(ds.any fun kv=>PyData.eqv kv.1 k)=xs.any fun x=>PyData.eqv x.1 k
 | [],xs,h=>by rw [show xs=[] from h];rfl
 | (k',d) :: ds,xs,h=>by
  obtain ⟨j,v,r,rfl,_,_,_,h2⟩:=h;rw [Ld,Ld,yb h2]
theorem uY {k d:PyData} {v:V} (hd:Dm K F H d v):∀ {ds:List (PyData×PyData)} {xs:List (PyData×V×V)},DmP K F H ds xs->DmP K F H (ds.map fun kv=>if PyData.eqv kv.1 k=true then (kv.1,d) else kv) (xs.map fun x=>if PyData.eqv x.1 k=true then (x.1,x.2.1,v) else x)
 | [],xs,h=>by rw [show xs=[] from h];rfl
 | (k',d') :: ds,xs,h=>by
  obtain ⟨j,w,r,rfl,e,h0,h1,h2⟩:=h;rw [JK,JK];by_cases z:PyData.eqv k' k=true
  ·rw [IX z,IX z];exact ⟨j,v,_,rfl,e,h0,hd,uY hd h2⟩
  ·rw [IV z,IV z];exact ⟨j,w,_,rfl,e,h0,h1,uY hd h2⟩
theorem x5 {k d:PyData} {j v:V} (hk:hk6 k=true) (hj:Dm K F H k j) (hd:Dm K F H d v):∀ {ds:List (PyData×PyData)} {xs:List (PyData×V×V)},DmP K F H ds xs->DmP K F H (ds++[(k,d)]) (xs++[(k,j,v)])
 | [],xs,h=>by rw [show xs=[] from h];exact ⟨j,v,[],rfl,hk,hj,hd,rfl⟩
 | (k',d') :: ds,xs,h=>by
  obtain ⟨i,w,r,rfl,e,h0,h1,h2⟩:=h;exact ⟨i,w,_,rfl,e,h0,h1,x5 hk hj hd h2⟩
theorem xc {k d:PyData} {j v:V} {ds:List (PyData×PyData)} {xs:List (PyData×V×V)} (h:DmP K F H ds xs) (hk:hk6 k=true) (hj:Dm K F H k j) (hd:Dm K F H d v):DmP K F H (putD ds k d) (pP xs k j v):=by
 unfold putD pP;rw [yb h];split
 ·exact uY hd h
 ·exact x5 hk hj hd h
theorem AY {kvs:List (Key×V)} {k:Key} {v:V}:(putK kvs k v).map cvK=pP (kvs.map cvK) (kD k) (kV k) v:=by
 unfold putK pP;have e:((kvs.map cvK).any fun x=>PyData.eqv x.1 (kD k))=kvs.any fun kv=>decide (kv.1=k):=by
  rw [List.any_map];congr 1;funext kv;exact xO _ _
 rw [e];split
 ·rw [KA,KA];refine List.map_congr_left fun kv _=>?_;show cvK (if kv.1=k then (kv.1,v) else kv)=if PyData.eqv (kD kv.1) (kD k)=true then _ else _
  rw [xO];by_cases z:kv.1=k
  ·rw [IX z,IX (Jr z)];rfl
  ·rw [IV z,IV (by simp [z])]
 ·rw [J6];rfl
theorem wK {kvs:List (Key×V)} {k:Key} {v:V}:(putK kvs k v).length<=kvs.length+1:=by
 unfold putK;split
 ·rw [IK];exact Nat.le_succ _
 ·rw [IJ];exact IY _
theorem Cp (k:Key):hk6 (kD k)=true:=by cases k <;> rfl
theorem qh:∀ {kvs:List (Key×PyData)} {vs:List (Key×V)} {ds:List (PyData×PyData)} {xs:List (Key×V)},AI K F H kvs vs->DmP K F H ds (xs.map cvK)->DmP K F H (kvs.foldl (fun acc kv=>putD acc (kD kv.1) kv.2) ds) ((eQ xs vs).map cvK)/\(eQ xs vs).length<=xs.length+vs.length
 | [],vs,ds,xs,h,q=>by rw [show vs=[] from h];exact ⟨q,IY _⟩
 | (k,d) :: kvs,vs,ds,xs,h,q=>by
  obtain ⟨v,r,rfl,h0,h1,h2⟩:=h;have:=qh h2 (xs:=putK xs k v) (by rw [AY];exact xc q (Cp k) h0 h1);refine ⟨this.1,Ju this.2 ?_⟩;have:=wK (kvs:=xs) (k:=k) (v:=v);rw [Jk];omega
theorem AI.len:∀ {kvs:List (Key×PyData)} {vs:List (Key×V)},AI K F H kvs vs->vs.length=kvs.length
 | [],vs,h=>by rw [show vs=[] from h];rfl
 | (k,d) :: kvs,vs,h=>by
  obtain ⟨v,r,rfl,h0,h1,h2⟩:=h;rw [Jk,Jk,h2.len]
theorem E1:SPs K ga gd .nil:=by
 intro env kvs env' h F0 H₀ I σ H Q R q;simp only [dP] at h;cases h;exact q [] H R (KpE.refl _) rfl
theorem Bb {k e:XE} {r:XP} (ik:SE K ga gd k) (ie:SE K ga gd e) (ir:SPs K ga gd r):SPs K ga gd (.cons k e r):=by
 intro env kvs env' h F0 H₀ I σ H Q R q;simp only [dP] at h;split at h
 ·rename_i rk e1 h1;split at h
  ·rename_i rv e2 h2;split at h
   ·rename_i kvs' e3 h3;split at h
    ·rename_i dk d hk hd;split at h
     ·rename_i key hkey;cases h;refine ik _ _ _ h1 F0 H₀ I σ H _ R fun v H1 R1 k1 r1=>?_;refine ie _ _ _ h2 F0 _ _ σ H1 _ R1.rebase fun u H2 S2 k2 r2=>?_;have R2:=R1.bN S2;refine ir _ _ _ h3 F0 _ _ σ H2 _ R2.rebase fun vs H3 S3 k3 r3=>?_;have a1:=r1.av;rw [hk] at a1;have a2:=r2.av;rw [hd] at a2;have ev:v=kV key:=by
       cases dk with
       | int i=>cases hkey;exact (show v=.int i from a1)
       | str x=>cases hkey;exact (show v=.str x/\_ from a1).1
       | _=>cases hkey
      have dd:Dm K (FF F0 env' σ) H3 d u:=R2.pU S3 k3 a2;have dk':Dm K (FF F0 env' σ) H3 (kD key) (kV key):=by
       cases dk with
       | int i=>cases hkey;rfl
       | str x=>cases hkey;exact ⟨rfl,(show v=.str x/\_ from a1).2⟩
       | _=>cases hkey
      rw [ev];exact q ((key,u) :: vs) H3 (R2.bN S3) ((k1.trans k2).trans k3) ⟨u,vs,rfl,dk',dd,r3⟩
     ·cases h
    ·cases h
   ·cases h
  ·cases h
 ·cases h
theorem Eu {as:XP} (ih:SPs K ga gd as):SE K ga gd (.dsp as):=by
 intro env rv env' h F0 H₀ I σ H Q R q;simp only [dE] at h;split at h
 ·rename_i kvs e1 h1;split at h
  ·rename_i hl;cases h;intro p hp;have s:=bf.nw (.dD 0 []) hp;have r0:fk K F0 H₀ I env σ (upd H p (.dD 0 [])) (.frs (.dict [])) (.ref p):=R.mJ (pr:=.frs (.dict [])) s ⟨p,rfl,hp,0,[],aF,by decide,rfl⟩;have R0:=r0;obtain ⟨a,ea,R0,_,_,nF,hi,_⟩:=R0;cases ea;have cIA:¬IA env σ p:=fun z=>by
    obtain ⟨i,⟨c,e | e⟩,s⟩:=z
    ·exact nF (.inr ⟨i,c,e,s⟩)
    ·exact hi i c e s
   refine ih _ _ _ h1 _ _ _ σ _ _ R0.rebase fun vs H2 S2 k2 ps=>?_;have r2:=r0.carry S2 k2;rw [gp] at ps;have hm:=qh ps (xs:=[]) (show DmP K (fun b=>FF F0 env' σ b\/b=p) H2 [] [] from rfl);have hlen:(eQ [] vs).length<=15:=by
    have:=hm.2;rw [ps.len] at this;simp only [Ke] at this;omega
   refine ⟨S2.d5 p _ aF cIA,vs,rfl,by rw [ps.len];exact hl,fun ep=>?_⟩;have r3:fk K F0 H₀ I env' σ (upd H2 p (.dD ep ((eQ [] vs).map cvK))) (.frs (.dict (kvs.foldl (fun acc kv=>putD acc (kD kv.1) kv.2) []))) (.ref p):=by
    refine r2.put ⟨ep,(eQ [] vs).map cvK,aF,by rw [IK];exact Ju hlen (by decide),hm.1.pr ?_ fun _ z=>z⟩;intro b u e n;by_cases z:b=p
    ·subst z;rcases n with n | n
     ·exact absurd (.inr rfl) n
     ·have:=S2.d5 b _ aF cIA;rw [e] at this;cases this;cases n
    ·rw [ay z];exact e
   exact q _ _ r3.rel k2 r3
  ·cases h
 ·cases h
end
end L2
end
section
namespace L2
open PySem
section
variable {K:Fg} {F F' I I' F0:Addr->Prop} {H H' H₀:Hp} {env env':En} {σ σ':St} {ga:Nat->V} {gd:List PyData}
theorem nz {α:Type}:∀ {l:List α} {i j:Nat} {x:α},l.Nodup->l[i]?=some x->l[j]?=some x->i=j
 | [],_,_,_,_,h,_=>by simp at h
 | y :: l,0,0,_,_,_,_=>rfl
 | y :: l,0,j+1,x,nd,h1,h2=>by
  simp at h1 h2;subst h1;exact absurd (Jn h2) (J2.mp nd).1
 | y :: l,i+1,0,x,nd,h1,h2=>by
  simp at h1 h2;subst h2;exact absurd (Jn h1) (J2.mp nd).1
 | y :: l,i+1,j+1,x,nd,h1,h2=>by
  simp at h1 h2;rw [nz (J2.mp nd).2 h1 h2]
def noOwn (env:En):Prop:=∀ (i:Nat) (d:PyData),env[i]?≠some (.own d)
theorem dO (h:noOwn env):FF F0 env σ=F0:=by
 funext b;apply propext;constructor
 ·rintro (q | ⟨i,d,e,_⟩)
  ·exact q
  ·exact absurd e (h i d)
 ·exact .inl
theorem noOwn.kp (h:noOwn env) (k:KpE env env'):noOwn env':=fun i d e=>by
 obtain ⟨d',e'⟩:=k.own e;exact h i d' e'
def qD:Sl->Prop | .dat _=>True | .un=>True | _=>False
theorem iL {pre:En} {ps:St} (hp:∀ s∈pre,qD s) (hl:pre.length=ps.length):FF F0 (pre++env) (ps++σ)=FF F0 env σ:=by
 funext b;apply propext;constructor
 ·rintro (q | ⟨i,d,e,s⟩)
  ·exact .inl q
  ·by_cases hi:i < pre.length
   ·rw [Je hi] at e;have:=hp _ (Jn e);exact absurd this id
   ·rw [IP (by omega)] at e;rw [IP (by omega),<-hl] at s;exact .inr ⟨_,d,e,s⟩
 ·rintro (q | ⟨i,d,e,s⟩)
  ·exact .inl q
  ·refine .inr ⟨pre.length+i,d,?_,?_⟩
   ·rw [IP (by omega)];simpa using e
   ·rw [IP (by omega),hl];simpa using s
theorem lL {pre:En} (hp:∀ s∈pre,qD s) {i:Nat} (h:mu (pre++env) i):pre.length<=i/\mu env (i - pre.length):=by
 obtain ⟨d,h⟩:=h;by_cases hi:i < pre.length
 ·rw [Je hi] at h;rcases h with h | h <;> exact absurd (hp _ (Jn h)) id
 ·rw [IP (by omega)] at h;exact ⟨by omega,d,h⟩
theorem ph {pre:En} {ps:St} (hp:∀ s∈pre,qD s) (hl:pre.length=ps.length):IA (pre++env) (ps++σ)=IA env σ:=by
 funext b;apply propext;constructor
 ·rintro ⟨i,m,s⟩;obtain ⟨hi,m'⟩:=lL hp m;rw [IP (by omega),<-hl] at s;exact ⟨_,m',s⟩
 ·rintro ⟨i,⟨d,m⟩,s⟩;refine ⟨pre.length+i,⟨d,?_⟩,?_⟩
  ·rw [IP (by omega)];simpa using m
  ·rw [IP (by omega),hl];simpa using s
theorem Rel.front (R:Rel K F0 H₀ I env σ H) {ds:List PyData} {vs:List V} (h:DmL K (FF F0 env σ) H ds vs):Rel K F0 H₀ I (ds.map .dat++env) (vs.map some++σ) H:=by
 have hp:∀ s∈(ds.map Sl.dat),qD s:=fun s hs=>by obtain ⟨d,_,rfl⟩:=JB.mp hs;trivial
 have hl:(ds.map Sl.dat).length=(vs.map some).length:=by rw [IK,IK,h.len]
 have hl2:(ds.map Sl.dat).length=ds.length:=IK _;have eF:=iL (F0:=F0) (env:=env) (σ:=σ) hp hl;have eI:=ph (env:=env) (σ:=σ) hp hl;have back:∀ {i:Nat} {s:Sl},(ds.map Sl.dat++env)[i]?=some s->(∀ d,s≠.dat d)->(ds.map Sl.dat).length<=i/\env[i - (ds.map Sl.dat).length]?=some s:=fun {i s} e n=>by
  by_cases hi:i < (ds.map Sl.dat).length
  ·rw [Je hi] at e;obtain ⟨d,_,z⟩:=JB.mp (Jn e);exact absurd z.symm (n d)
  ·rw [IP (by omega)] at e;exact ⟨by omega,e⟩
 have fs:∀ {i:Nat} {x:Option V},(ds.map Sl.dat).length<=i->σ[i - (ds.map Sl.dat).length]?=some x->(vs.map some++σ)[i]?=some x:=fun {i x} hi e=>by
  rw [IP (by omega),<-hl];exact e
 refine ⟨by rw [IJ,IJ,hl,R.len],fun i d e=>?_,fun i d e=>?_,fun i d e=>?_,fun i d e=>?_,fun i j a h1 h2 h3 h4=>?_,R.dom,R.d5⟩
 ·rw [eF];by_cases hi:i < (ds.map Sl.dat).length
  ·rw [Je hi,Jd] at e;cases e2:ds[i]? with
   | none=>rw [e2] at e;cases e
   | some d' =>
    rw [e2] at e;cases e;obtain ⟨v,q,r⟩:=h.get e2;refine ⟨v,?_,r⟩;rw [Je (by omega),Jd,q];rfl
  ·rw [IP (by omega)] at e;obtain ⟨v,s,r⟩:=R.dat _ d e;exact ⟨v,fs (by omega) s,r⟩
 ·rw [eF];obtain ⟨hi,e⟩:=back e (fun _=>nofun);obtain ⟨a,s,q⟩:=R.own _ d e;exact ⟨a,fs hi s,q⟩
 ·rw [eF];obtain ⟨hi,e⟩:=back e (fun _=>nofun);obtain ⟨a,s,q⟩:=R.ino _ d e;exact ⟨a,fs hi s,q⟩
 ·rw [eF,eI];obtain ⟨hi,e⟩:=back e (fun _=>nofun);obtain ⟨a,s,q⟩:=R.ro _ d e;exact ⟨a,fs hi s,q⟩
 ·obtain ⟨i1,m1⟩:=lL hp h1;obtain ⟨i2,m2⟩:=lL hp h2;rw [IP (by omega),<-hl] at h3 h4;have:=R.sep _ _ a m1 m2 h3 h4;omega
theorem Rel.behind {pre:En} {ps:St} (R:Rel K F0 H₀ I (pre++env) (ps++σ) H) (hp:∀ s∈pre,qD s) (hl:pre.length=ps.length):Rel K F0 H₀ I env σ H:=by
 have eF:=iL (F0:=F0) (env:=env) (σ:=σ) hp hl;have eI:=ph (env:=env) (σ:=σ) hp hl;have up:∀ {i:Nat} {s:Sl},env[i]?=some s->(pre++env)[pre.length+i]?=some s:=fun {i s} e=>by
  rw [IP (by omega)];simpa using e
 have dn:∀ {i:Nat} {x:Option V},(ps++σ)[pre.length+i]?=some x->σ[i]?=some x:=fun {i x} e=>by
  rw [IP (by omega),hl] at e;simpa using e
 have us:∀ {i:Nat} {x:Option V},σ[i]?=some x->(ps++σ)[pre.length+i]?=some x:=fun {i x} e=>by
  rw [IP (by omega),hl];simpa using e
 refine ⟨by have:=R.len;rw [IJ,IJ,hl] at this;omega,fun i d e=>?_,fun i d e=>?_,fun i d e=>?_,fun i d e=>?_,fun i j a h1 h2 h3 h4=>?_,R.dom,R.d5⟩
 ·obtain ⟨v,s,r⟩:=R.dat _ d (up e);rw [eF] at r;exact ⟨v,dn s,r⟩
 ·obtain ⟨v,s,r⟩:=R.own _ d (up e);rw [eF] at r;exact ⟨v,dn s,r⟩
 ·obtain ⟨v,s,r⟩:=R.ino _ d (up e);rw [eF] at r;exact ⟨v,dn s,r⟩
 ·obtain ⟨v,s,r⟩:=R.ro _ d (up e);rw [eF,eI] at r;exact ⟨v,dn s,r⟩
 ·obtain ⟨d1,m1⟩:=h1;obtain ⟨d2,m2⟩:=h2;have:=R.sep (pre.length+i) (pre.length+j) a ⟨d1,m1.imp up up⟩ ⟨d2,m2.imp up up⟩ (us h3) (us h4);omega
theorem KpE.front {ds:List PyData} {e':En} (k:KpE (ds.map .dat++env) e'):∃ env',e'=ds.map .dat++env'/\KpE env env':=by
 have hlen:=k.1;rw [IJ,IK] at hlen;refine ⟨e'.drop ds.length,?_,?_,fun i s e=>?_⟩
 ·apply List.ext_getElem?;intro i;by_cases hi:i < ds.length
  ·have hm:(ds.map Sl.dat++env)[i]?=some (.dat ds[i]):=by
    rw [Je (by rw [IK];exact hi),Jd,II hi];rfl
   obtain ⟨s',h',ev⟩:=k.2 i _ hm;have ev:s'=.dat ds[i]:=ev;rw [h',ev,Je (by rw [IK];exact hi),Jd,II hi];rfl
  ·rw [IP (by rw [IK];omega),List.getElem?_drop,IK];congr 1;omega
 ·rw [Kk];omega
 ·obtain ⟨s',h',ev⟩:=k.2 (ds.length+i) s (by rw [IP (by rw [IK];omega),IK];simpa using e);exact ⟨s',by rw [List.getElem?_drop];exact h',ev⟩
theorem fS {lock:Option Nat} {js:List Nat} {k:Nat} {s:Sl} (h:(fu env lock js)[k]?=some s):∃ j,js[k]?=some j/\s=nO (decide (lock=some j)) (env[j]?.getD .un):=by
 unfold fu at h;rw [Jd] at h;cases e:js[k]? with
 | none=>rw [e] at h;cases h
 | some j=>rw [e] at h;cases h;exact ⟨j,rfl,rfl⟩
theorem pM {js:List Nat} {k j:Nat} (h:js[k]?=some j):(b8 js σ)[k]?=some ((σ[j]?).getD none):=by
 unfold b8;rw [Jd,h];rfl
theorem cX {lock:Option Nat} {js:List Nat}:noOwn (fu env lock js):=fun k d e=>by
 obtain ⟨j,_,e'⟩:=fS e;cases h:env[j]?.getD .un with
 | un=>rw [h] at e';cases e'
 | dat _=>rw [h] at e';cases e'
 | own c=>rw [h] at e';unfold nO at e';simp only at e';split at e' <;> cases e'
 | ino c=>rw [h] at e';unfold nO at e';simp only at e';split at e' <;> cases e'
 | ro _=>rw [h] at e';cases e'
theorem getD_some {j:Nat} {s:Sl} (h:env[j]?.getD .un=s) (n:s≠.un):env[j]?=some s:=by
 cases e:env[j]? with
 | none=>rw [e] at h;exact absurd h.symm n
 | some t=>rw [e] at h;cases h;rfl
theorem p6 {lock:Option Nat} {js:List Nat} {k:Nat} {d:PyData} (h:(fu env lock js)[k]?=some (.ino d)):∃ j,js[k]?=some j/\lock≠some j/\(env[j]?=some (.own d)\/env[j]?=some (.ino d)):=by
 obtain ⟨j,hj,e'⟩:=fS h;refine ⟨j,hj,?_⟩;cases h:env[j]?.getD .un with
 | un=>rw [h] at e';cases e'
 | dat _=>rw [h] at e';cases e'
 | own c =>
  rw [h] at e';unfold nO at e';simp only at e';split at e'
  ·cases e'
  ·rename_i n;cases e';exact ⟨by simpa using n,.inl (getD_some h nofun)⟩
 | ino c =>
  rw [h] at e';unfold nO at e';simp only at e';split at e'
  ·cases e'
  ·rename_i n;cases e';exact ⟨by simpa using n,.inr (getD_some h nofun)⟩
 | ro _=>rw [h] at e';cases e'
theorem eJ {lock:Option Nat} {js:List Nat} {k:Nat} (h:mu (fu env lock js) k):∃ j,js[k]?=some j/\lock≠some j/\mu env j:=by
 obtain ⟨d,h | h⟩:=h
 ·exact absurd h (cX k d)
 ·obtain ⟨j,h1,h2,h3⟩:=p6 h;exact ⟨j,h1,h2,d,h3⟩
theorem cm {js:List Nat} {k j:Nat} {a:Addr} (h:js[k]?=some j) (e:(b8 js σ)[k]?=some (some (.ref a))):σ[j]?=some (some (.ref a)):=by
 rw [pM h] at e;cases q:σ[j]? with
 | none=>rw [q] at e;cases e
 | some x=>rw [q] at e;cases e;rfl
theorem cW {js:List Nat} {k j:Nat} {v:V} (h:js[k]?=some j) (e:σ[j]?=some (some v)):(b8 js σ)[k]?=some (some v):=by rw [pM h,e];rfl
theorem Rel.b8 (R:Rel K F0 H₀ I env σ H) {lock:Option Nat} {js:List Nat} (nd:js.Nodup):Rel K (FF F0 env σ) H (IA (fu env lock js) (L2.b8 js σ)) (fu env lock js) (L2.b8 js σ) H:=by
 have eF:FF (FF F0 env σ) (fu env lock js) (L2.b8 js σ)=FF F0 env σ:=dO cX;have sub:∀ b,IA (fu env lock js) (L2.b8 js σ) b->IA env σ b:=fun b ⟨k,m,s⟩=>by
  obtain ⟨j,hj,_,mj⟩:=eJ m;exact ⟨j,mj,cm hj s⟩
 refine ⟨by unfold fu L2.b8;rw [IK,IK],fun k d e=>?_,fun k d e=>absurd e (cX k d),fun k d e=>?_,fun k d e=>?_,fun k l a h1 h2 h3 h4=>?_,fun b h=>R.ft h,fun _ _ h _=>h⟩
 ·rw [eF];obtain ⟨j,hj,e'⟩:=fS e;have ej:env[j]?=some (.dat d):=by
   cases h:env[j]?.getD .un with
   | un=>rw [h] at e';cases e'
   | dat c=>rw [h] at e';cases e';exact getD_some h nofun
   | own c=>rw [h] at e';unfold nO at e';simp only at e';split at e' <;> cases e'
   | ino c=>rw [h] at e';unfold nO at e';simp only at e';split at e' <;> cases e'
   | ro _=>rw [h] at e';cases e'
  obtain ⟨v,s,r⟩:=R.dat j d ej;exact ⟨v,cW hj s,r⟩
 ·rw [eF];obtain ⟨j,hj,_,ej⟩:=p6 e;have:∃ a,σ[j]?=some (some (.ref a))/\FF F0 env σ a/\Top K (FF F0 env σ) H d a:=by
   rcases ej with ej | ej
   ·obtain ⟨a,s,_,_,t⟩:=R.own j d ej;exact ⟨a,s,.inr ⟨j,d,ej,s⟩,t⟩
   ·obtain ⟨a,s,f,_,t⟩:=R.ino j d ej;exact ⟨a,s,.inl f,t⟩
  obtain ⟨a,s,f,t⟩:=this;exact ⟨a,cW hj s,f,⟨k,⟨d,.inr e⟩,cW hj s⟩,t⟩
 ·rw [eF];obtain ⟨j,hj,e'⟩:=fS e;have lk:∀ a,lock=some j->mu env j->σ[j]?=some (some (.ref a))->¬IA (fu env lock js) (L2.b8 js σ) a:=fun a hl m s ⟨k',m',s'⟩=>by
   obtain ⟨j',hj',hn,mj'⟩:=eJ m';have:=R.sep j' j a mj' m (cm hj' s') s;subst this;exact hn hl
  cases h:env[j]?.getD .un with
  | un=>rw [h] at e';cases e'
  | dat c=>rw [h] at e';cases e'
  | own c =>
   rw [h] at e';unfold nO at e';simp only at e';split at e'
   ·rename_i n;cases e';have ej:=getD_some h nofun;obtain ⟨a,s,_,_,t⟩:=R.own j d ej;exact ⟨a,cW hj s,t.ro (lk a (by simpa using n) ⟨d,.inl ej⟩ s)⟩
   ·cases e'
  | ino c =>
   rw [h] at e';unfold nO at e';simp only at e';split at e'
   ·rename_i n;cases e';have ej:=getD_some h nofun;obtain ⟨a,s,_,_,t⟩:=R.ino j d ej;exact ⟨a,cW hj s,t.ro (lk a (by simpa using n) ⟨d,.inr ej⟩ s)⟩
   ·cases e'
  | ro c =>
   rw [h] at e';cases e';obtain ⟨a,s,t⟩:=R.ro j d (getD_some h nofun);exact ⟨a,cW hj s,t.pr Pr.refl (fun _ z=>z) sub fun _ _ z _=>z⟩
 ·obtain ⟨j1,e1,_,m1⟩:=eJ h1;obtain ⟨j2,e2,_,m2⟩:=eJ h2;have:=R.sep j1 j2 a m1 m2 (cm e1 h3) (cm e2 h4);subst this;exact nz nd e1 e2
theorem bt:∀ (env:En) (js:List Nat) (es:En),SmK env (bp env js es)
 | env,[],es=>by unfold bp;exact SmK.refl _
 | env,j :: js,[]=>by unfold bp;exact SmK.refl _
 | env,j :: js,s :: es=>by
  cases s with
  | ino d=>unfold bp;exact (fc env j d).trans (bt _ js es)
  | un=>unfold bp;exact bt _ js es
  | dat _=>unfold bp;exact bt _ js es
  | own _=>unfold bp;exact bt _ js es
  | ro _=>unfold bp;exact bt _ js es
theorem bu:∀ (env:En) (js:List Nat) (es:En) (i:Nat),i ∉ js->(bp env js es)[i]?=env[i]?
 | env,[],es,i,_=>by unfold bp;rfl
 | env,j :: js,[],i,_=>by unfold bp;rfl
 | env,j :: js,s :: es,i,h=>by
  have n:i≠j:=fun z=>h (by rw [z];exact IU);have n':i ∉ js:=fun z=>h (Jb _ z);cases s with
  | ino d=>unfold bp;rw [bu _ js es i n',lN n]
  | un=>unfold bp;exact bu _ js es i n'
  | dat _=>unfold bp;exact bu _ js es i n'
  | own _=>unfold bp;exact bu _ js es i n'
  | ro _=>unfold bp;exact bu _ js es i n'
theorem fg:∀ (env:En) (js:List Nat) (es:En) (k i:Nat) (s:Sl),js.Nodup->js[k]?=some i->es[k]?=some s->(∀ d,s=.ino d->mu env i->br (bp env js es) i=some d)/\((∀ d,s≠.ino d)->(bp env js es)[i]?=env[i]?)
 | env,[],es,k,i,s,_,h,_=>by simp at h
 | env,j :: js,[],k,i,s,_,_,h=>by simp at h
 | env,j :: js,t :: es,0,i,s,nd,h,h'=>by
  obtain ⟨n1,nd'⟩:=J2.mp nd;simp at h h';subst h h';constructor
  ·rintro d rfl m;unfold bp;have:=bu (iG env j d) js es j n1;unfold br;rw [this];exact kK m
  ·intro hn;cases t with
   | ino d=>exact absurd rfl (hn d)
   | un=>unfold bp;exact bu _ js es j n1
   | dat _=>unfold bp;exact bu _ js es j n1
   | own _=>unfold bp;exact bu _ js es j n1
   | ro _=>unfold bp;exact bu _ js es j n1
 | env,j :: js,t :: es,k+1,i,s,nd,h,h'=>by
  obtain ⟨n1,nd'⟩:=J2.mp nd;simp at h h';have hi:i∈js:=Jn h;have ne:i≠j:=fun z=>n1 (z▸hi);cases t with
  | ino d =>
   unfold bp;have ih:=fg (iG env j d) js es k i s nd' h h';refine ⟨fun d' e m=>ih.1 d' e ((fc env j d).symm.kp.mu m),fun hn=>?_⟩;rw [ih.2 hn,lN ne]
  | un=>unfold bp;exact fg env js es k i s nd' h h'
  | dat _=>unfold bp;exact fg env js es k i s nd' h h'
  | own _=>unfold bp;exact fg env js es k i s nd' h h'
  | ro _=>unfold bp;exact fg env js es k i s nd' h h'
theorem KpE.Gs (k:KpE env env') {i:Nat} {d:PyData} (e:env[i]?=some (.ino d)):∃ d',env'[i]?=some (.ino d'):=by
 obtain ⟨s',h,ev⟩:=k.2 i _ e;obtain ⟨d',rfl⟩:=ev;exact ⟨d',h⟩
theorem Rel.back (R:Rel K F0 H₀ I env σ H) {lock:Option Nat} {js:List Nat} {ec:En} (nd:js.Nodup) (S:Rel K (FF F0 env σ) H (IA (fu env lock js) (L2.b8 js σ)) ec (L2.b8 js σ) H') (k:KpE (fu env lock js) ec):Rel K F0 H₀ I (bp env js ec) σ H':=by
 have sub:∀ b,IA (fu env lock js) (L2.b8 js σ) b->IA env σ b:=fun b ⟨k,m,s⟩=>by
  obtain ⟨j,hj,_,mj⟩:=eJ m;exact ⟨j,mj,cm hj s⟩
 have hk:∀ b o,H b=some o->¬IA env σ b->H' b=some o:=fun b o e n=>S.d5 b o e fun z=>n (sub b z);have eFc:FF (FF F0 env σ) ec (L2.b8 js σ)=FF F0 env σ:=dO (cX.kp k);refine R.chg (bt env js ec) hk fun i d a hm hs=>?_;have sm:=bt env js ec;have mi:mu env i:=sm.kp.mu ((pL hm).elim (fun e=>⟨d,.inl e⟩) fun e=>⟨d,.inr e⟩);have nE:(bp env js ec)[i]?=env[i]?->¬IA (fu env lock js) (L2.b8 js σ) a->Top K (FF F0 env σ) H' d a:=fun e n=>by
  have hm':br env i=some d:=by unfold br at hm ⊢;rwa [e] at hm
  obtain ⟨_,a',s',_,t⟩:=R.dX hm';rw [hs] at s';cases s';exact t.pr (R.qe hk) (fun _ z=>z) fun o e=>S.d5 a o e n
 by_cases hi:i∈js
 ·obtain ⟨p,hp⟩:=Kt.mp hi;have hlen:ec.length=js.length:=by rw [k.1];unfold fu;rw [IK]
  have hpl:p < js.length:=(IL.mp hp).1;have he:ec[p]?=some (ec[p]'(by omega)):=II _;obtain ⟨b1,b2⟩:=fg env js ec p i _ nd hp he;by_cases hl:lock=some i
  ·-- locked
   refine nE (b2 fun d' z=>?_) ?_
   ·rw [z] at he;obtain ⟨s,e0,ev⟩:=k.back he;obtain ⟨j,hj,e'⟩:=fS e0;rw [hp] at hj;cases hj;obtain ⟨c,hc | hc⟩:=mi
    ·rw [hc] at e';simp only [Option.getD_some,nO,hl,decide_true,K8] at e';subst e';cases ev
    ·rw [hc] at e';simp only [Option.getD_some,nO,hl,decide_true,K8] at e';subst e';cases ev
   ·rintro ⟨q,mq,sq⟩;obtain ⟨j',hj',hn,mj'⟩:=eJ mq;have:=R.sep j' i a mj' mi (cm hj' sq) hs;subst this;exact hn hl
  ·have:∃ c,(fu env lock js)[p]?=some (.ino c):=by
    unfold fu;rw [Jd,hp];obtain ⟨c,hc | hc⟩:=mi
    ·exact ⟨c,by rw [Ln,hc];simp [nO,hl]⟩
    ·exact ⟨c,by rw [Ln,hc];simp [nO,hl]⟩
   obtain ⟨c,hc⟩:=this;obtain ⟨d',hd'⟩:=k.Gs hc;rw [he] at hd';have ed:=b1 d' (J1 hd') mi;rw [hm] at ed;cases ed;obtain ⟨a',s',_,_,t⟩:=S.ino p d (by rw [he];exact hd');have:=cm hp s';rw [hs] at this;cases this
   rwa [eFc] at t
 ·refine nE (bu env js ec i hi) ?_;rintro ⟨q,mq,sq⟩;obtain ⟨j',hj',hn,mj'⟩:=eJ mq;have:=R.sep j' i a mj' mi (cm hj' sq) hs;subst this;exact hi (Jn hj')
end
end L2
end
section
namespace L2
open PySem
section
variable {K:Fg} {F F' I I' F0:Addr->Prop} {H H' H₀ H1:Hp} {env env' e1:En} {σ σ':St} {ga:Nat->V} {gd:List PyData}
def Fv (K:Fg) (F:Addr->Prop) (H:Hp) (acc:List V):Option PyData->List V->Prop
 | none,acc'=>acc'=acc
 | some d,acc'=>∃ v,acc'=acc++[v]/\Dm K F H d v
theorem rO {step:PyData->En->Option (Option PyData×En)} {ds ys:List PyData} {ec:En} {lock:Option Nat} {js:List Nat} {J:It} {Q:VK} {τ:Type} {TI:τ->Prop} {t0:τ} {body:τ->List V->V->Hp->(τ->List V->Hp->Prop)->Prop} (ht0:TI t0)
  (R1:Rel K F0 H₀ I e1 σ H1) (nd:js.Nodup) (hit:wV K (FF F0 e1 σ) (fun b=>IA e1 σ b/\∀ i,lock=some i->mu e1 i->σ[i]?≠some (some (.ref b))) H1 J ds) (h2:vo step ds (fu e1 lock js)=some (ys,ec))
  (turn:∀ t acc d envc y envc' x H',TI t->step d envc=some (y,envc')->Rel K (FF F0 e1 σ) H1 (IA (fu e1 lock js) (b8 js σ)) envc (b8 js σ) H'->noOwn envc->Dm K (FF F0 e1 σ) H' d x->∀ N:τ->List V->Hp->Prop,
   (∀ t' acc' H2,TI t'->Rel K (FF F0 e1 σ) H1 (IA (fu e1 lock js) (b8 js σ)) envc' (b8 js σ) H2->KpE envc envc'->Pr (FF F0 e1 σ) H' H2->Fv K (FF F0 e1 σ) H2 acc y acc'->N t' acc' H2)->body t acc x H' N)
  (fin:∀ acc H',Rel K F0 H₀ I (bp e1 js ec) σ H'->DmL K (FF F0 e1 σ) H' ys acc->acc.length<=sizeLine->∀ p,H' p=none->Q (.ref p) (upd H' p (.lst acc))) :
  ∃ W:Nat->Nat->τ->List V->Hp->Prop,(∃ m,W 0 m t0 [] H1)/\∀ i m t acc H,W i m t acc H ->
   (J.stop i H/\acc.length<=sizeLine/\∀ p,H p=none->Q (.ref p) (upd H p (.lst acc)))\/(J.go i H/\acc.length < sizeLine/\∀ x H',J.yld i H x H'->body t acc x H' fun t' acc' H2=>∃ m',m' < m/\W (i+1) m' t' acc' H2):=by
 obtain ⟨hvl,hturn⟩:=hit;have sub:∀ b,IA (fu e1 lock js) (b8 js σ) b->IA e1 σ b/\∀ i,lock=some i->mu e1 i->σ[i]?≠some (some (.ref b)):=fun b ⟨k,m,s⟩=>by
  obtain ⟨j,hj,hn,mj⟩:=eJ m;refine ⟨⟨j,mj,cm hj s⟩,fun i hl mi si=>?_⟩;have:=R1.sep j i b mj mi (cm hj s) si;subst this;exact hn hl
 have Rc0:=R1.b8 (lock:=lock) nd
 refine ⟨fun i m t acc H'=>TI t/\m=ds.length - i/\i<=ds.length/\acc.length<=i/\∃ envc done rest,vo step (ds.drop i) envc=some (rest,ec)/\ys=done++rest/\Rel K (FF F0 e1 σ) H1 (IA (fu e1 lock js) (b8 js σ)) envc (b8 js σ) H'/\KpE (fu e1 lock js) envc/\DmL K (FF F0 e1 σ) H' done acc,
  ⟨ds.length,ht0,rfl,JZ _,IY _,fu e1 lock js,[],ys,h2,rfl,Rc0,KpE.refl _,rfl⟩,?_⟩
 rintro i m t acc H' ⟨hti,rfl,hi,hal,envc,done,rest,hc,hy,Rc,kc,hacc⟩;have hkept:∀ b o,H1 b=some o->¬(IA e1 σ b/\∀ i,lock=some i->mu e1 i->σ[i]?≠some (some (.ref b)))->H' b=some o:=fun b o e n=>Rc.d5 b o e fun z=>n (sub b z);by_cases hlt:i < ds.length
 ·right;obtain ⟨go,yld⟩:=(hturn H' hkept i).1 (by omega);refine ⟨go,by omega,fun x H'' hx=>?_⟩;obtain ⟨d,hd,hy9⟩:=yld x H'' hx;obtain ⟨sm,hdx'⟩:=hy9.dm (F2:=FF F0 e1 σ) fun d v h=>h.pr (R1.qe fun b o e n=>hkept b o e fun z=>n z.1) fun _ z=>z;have Rc:=Rc.same sm;have hacc:=hacc.pr (fun b o e _=>sm b o e) fun _ z=>z;have ed:ds.drop i=d :: ds.drop (i+1):=by
   rw [J8 hlt];obtain ⟨_,q⟩:=IL.mp hd;rw [q]
  rw [ed] at hc;unfold vo at hc;split at hc
  ·rename_i y envc' hs;split at hc
   ·rename_i ys' e2 hr;cases hc;refine turn t acc d envc y envc' x H'' hti hs Rc (cX.kp kc) hdx' _ fun t' acc' H2 ht' R2 k2 p2 ha=>⟨_,by omega,ht',rfl,by omega,?_,envc',done++y.toList,ys',hr,by rw [hy,Jl],R2,kc.trans k2,?_⟩
    ·cases y with
     | none=>rw [show acc'=acc from ha];omega
     | some dy=>obtain ⟨v,rfl,_⟩:=ha;rw [IJ];simp;omega
    ·have hacc':=hacc.pr p2 fun _ z=>z;cases y with
     | none=>rw [show acc'=acc from ha];simpa using hacc'
     | some dy=>obtain ⟨v,rfl,hv⟩:=ha;exact hacc'.snoc hv
   ·cases hc
  ·cases hc
 ·left;have e:i=ds.length:=by omega
  subst e;have hz:acc.length<=sizeLine:=by omega
  rw [List.drop_length] at hc;unfold vo at hc;cases hc;rw [JV] at hy;subst hy;exact ⟨(hturn H' hkept _).2 (by omega),hz,fin acc H' (R1.back nd Rc kc) hacc hz⟩
theorem FH {js:List Nat} {it:XI} {c:XT} {e:XE} (ii:SI K ga gd it) (ic:ST K ga gd c) (ie:SE K ga gd e):SE K ga gd (.cmp js it c e):=by
 intro env rv env' h F0 H₀ I σ H Q R q;simp only [dE] at h;split at h
 ·rename_i ds lock e1 h1;split at h
  ·rename_i nd;split at h
   ·rename_i ys ec h2;cases h;refine ii _ _ _ _ h1 F0 H₀ I σ H _ R fun J H1 R1 k1 _ hit=>?_;refine Exists.elim (rO (Q:=Q) (τ:=Unit) (TI:=fun _=>True) (t0:=()) (body:=fun _ acc x H' N=>rT K ga c (some x :: b8 js σ) H' fun b H2=>if b=true then rE K ga e (some x :: b8 js σ) H2 fun y H3=>N () (acc++[y]) H3 else N () acc H2) trivial R1 nd hit h2 ?_ ?_) fun W hw=>?_
    rotate_right 1
    ·obtain ⟨w0,hW⟩:=hw;exact ⟨fun i m acc H=>W i m () acc H,w0,fun i m acc H w=>hW i m () acc H w⟩
    ·intro _ acc d envc y envc' x H' _ hs Rc no hd N hN;have eF:FF (FF F0 e1 σ) envc (b8 js σ)=FF F0 e1 σ:=dO no;have Rx:Rel K (FF F0 e1 σ) H1 (IA (fu e1 lock js) (b8 js σ)) (.dat d :: envc) (some x :: b8 js σ) H':=Rc.front (ds:=[d]) (vs:=[x]) ⟨x,[],rfl,by rw [eF];exact hd,rfl⟩;have frontF:∀ {e2:En},KpE envc e2->FF (FF F0 e1 σ) (.dat d :: e2) (some x :: b8 js σ)=FF F0 e1 σ:=fun {e2} k=>by
      have:=iL (F0:=FF F0 e1 σ) (env:=e2) (σ:=b8 js σ) (pre:=[.dat d]) (ps:=[some x]) (fun s hs=>by rw [IZ.mp hs];trivial) rfl;exact this.trans (dO (no.kp k))
     unfold jr at hs;split at hs
     ·rename_i e2 hT;split at hs
      ·rename_i rv e3 hE;split at hs
       ·rename_i dy hv;cases hs;refine ic _ _ _ hT _ _ _ _ H' _ Rx.rebase fun H2 S2 k2=>?_;rw [IX rfl];have R2:=Rx.bN S2;refine ie _ _ _ hE _ _ _ _ H2 _ R2.rebase fun v H3 S3 k3 r3=>?_;have R3:=R2.bN S3;obtain ⟨ex,e3',kx⟩:=(k2.trans k3).front (ds:=[d]);have k23:=k2.trans k3;subst e3';have ht:(([d].map Sl.dat)++ex).tail=ex:=rfl;obtain ⟨e2x,e2',k2x⟩:=k2.front (ds:=[d]);have p12:Pr (FF F0 e1 σ) H' H2:=by have:=Rx.qe S2.d5;rwa [frontF (KpE.refl _)] at this
        have p23:Pr (FF F0 e1 σ) H2 H3:=by
         have:=R2.qe S3.d5;rw [e2'] at this
         rwa [show FF (FF F0 e1 σ) ([d].map Sl.dat++e2x) (some x :: b8 js σ)=FF F0 e1 σ from frontF k2x] at this
        have a3:=r3.av;rw [hv] at a3;have dv:Dm K (FF F0 e1 σ) H3 dy v:=by
         have:Dm K (FF (FF F0 e1 σ) ([d].map Sl.dat++ex) (some x :: b8 js σ)) H3 dy v:=a3
         rwa [show FF (FF F0 e1 σ) ([d].map Sl.dat++ex) (some x :: b8 js σ)=FF F0 e1 σ from frontF kx] at this
        exact hN () _ H3 trivial (R3.behind (pre:=[.dat d]) (ps:=[some x]) (fun s hs=>by rw [IZ.mp hs];trivial) rfl) kx (p12.trans p23 fun _ z=>z) ⟨v,rfl,dv⟩
       ·cases hs
      ·cases hs
     ·rename_i e2 hT;cases hs;refine ic _ _ _ hT _ _ _ _ H' _ Rx.rebase fun H2 S2 k2=>?_;rw [IV (by decide)];have R2:=Rx.bN S2;obtain ⟨ex,e2',kx⟩:=k2.front (ds:=[d]);subst e2';have p12:Pr (FF F0 e1 σ) H' H2:=by have:=Rx.qe S2.d5;rwa [frontF (KpE.refl _)] at this
      exact hN () _ H2 trivial (R2.behind (pre:=[.dat d]) (ps:=[some x]) (fun s hs=>by rw [IZ.mp hs];trivial) rfl) kx p12 rfl
     ·cases hs
    ·intro acc H' R' hd hz p hp;have eF:=(bt e1 js ec).ff (F0:=F0) (σ:=σ);have s:=bf.nw (.lst acc) hp;exact q _ _ (R'.same s) (k1.trans (bt e1 js ec).kp) (R'.mJ (pr:=.frs (.list ys)) s ⟨p,rfl,hp,acc,aF,hz,by rw [eF];exact (hd.fresh hp).pr (Pr.of_same s) fun _ z=>z⟩)
   ·cases h
  ·cases h
 ·cases h
def CZ:St->Nat->List V->St
 | σ,_,[]=>σ
 | σ,k,v :: vs=>CZ (σ.set k (some v)) (k+1) vs
theorem lS:∀ {vs:List V} {k:Nat} {σ:St} {H:Hp} {Q:St->Hp->Prop},Q (CZ σ k vs) H->gNs (List.range' k vs.length) vs σ H Q
 | [],_,_,_,_,h=>⟨rfl,h⟩
 | v :: vs,k,σ,H,Q,h=>⟨v,vs,rfl,lS (vs:=vs) (k:=k+1) h⟩
theorem pT:∀ {vs:List V} {pre hd tl:St},hd.length=vs.length->CZ (pre++(hd++tl)) pre.length vs=pre++(vs.map some++tl)
 | [],pre,hd,tl,h=>by
  have:hd=[]:=Jv h;subst this;rfl
 | v :: vs,pre,[],tl,h=>by cases h
 | v :: vs,pre,x :: hd,tl,h=>by
  have hl:hd.length=vs.length:=by simpa using h
  have e:(pre++(x :: hd++tl)).set pre.length (some v)=(pre++[some v])++(hd++tl):=by
   rw [List.set_append_right _ _ (IY _)];simp
  unfold CZ;rw [e];have:=pT (vs:=vs) (pre:=pre++[some v]) (hd:=hd) (tl:=tl) hl;rw [IJ] at this;rw [show pre.length+1=pre.length+[some v].length from rfl,this];simp
theorem uZ (n:List Str):(uk n).length=n.length:=by unfold uk;rw [IK]
theorem BU {n:List Str} {js:List Nat} {it:XI} {e:XE} (ii:SI K ga gd it) (ie:SE K ga gd e):SE K ga gd (.B3 n js it e):=by
 intro env rv env' h F0 H₀ I σ H Q R q;simp only [dE] at h;split at h
 ·rename_i ds lock e1 h1;split at h
  ·rename_i nd;split at h
   ·rename_i ys ec h2;cases h;refine ii _ _ _ _ h1 F0 H₀ I σ H _ R fun J H1 R1 k1 _ hit=>?_;refine Exists.elim (rO (Q:=Q) (τ:=St) (TI:=fun t=>∃ hd:St,hd.length=n.length/\t=hd++b8 js σ) (t0:=uk n++b8 js σ) (body:=fun t acc x H' N=>gTp K (List.range n.length) x t H' fun σ2 H2=>rE K ga e σ2 H2 fun y H3=>N σ2 (acc++[y]) H3) ⟨uk n,uZ n,rfl⟩ R1 nd hit h2 ?_ ?_) fun W hw=>?_
    rotate_right 1
    ·obtain ⟨w0,hW⟩:=hw;exact ⟨W,w0,hW⟩
    ·rintro t acc d envc y envc' x H' ⟨hd,hl,rfl⟩ hs Rc no hdx N hN;have eF:FF (FF F0 e1 σ) envc (b8 js σ)=FF F0 e1 σ:=dO no;unfold lF at hs;split at hs
     ·rename_i xs;split at hs
      ·rename_i hxl;split at hs
       ·rename_i rv e3 hE;split at hs
        ·rename_i dy hv;cases hs;obtain ⟨a,vs,rfl,hq,hz,hdl⟩:=hdx;have hvl:vs.length=n.length:=by rw [hdl.len,hxl]
         refine ⟨a,vs,rfl,hq,by rw [J5];exact hvl,?_⟩;rw [List.range_eq_range',<-hvl];refine lS ?_;have es:CZ (hd++b8 js σ) 0 vs=vs.map some++b8 js σ:=pT (pre:=[]) (by rw [hl,hvl]);rw [es];have Rx:Rel K (FF F0 e1 σ) H1 (IA (fu e1 lock js) (b8 js σ)) (xs.map .dat++envc) (vs.map some++b8 js σ) H':=Rc.front (by rw [eF];exact hdl);have hpre:∀ s∈(xs.map Sl.dat),qD s:=fun s hs=>by obtain ⟨d,_,rfl⟩:=JB.mp hs;trivial
         have hpl:(xs.map Sl.dat).length=(vs.map some).length:=by rw [IK,IK,hdl.len]
         have frontF:∀ {e2:En},KpE envc e2->FF (FF F0 e1 σ) (xs.map .dat++e2) (vs.map some++b8 js σ)=FF F0 e1 σ:=fun {e2} k=>(iL hpre hpl).trans (dO (no.kp k));refine ie _ _ _ hE _ _ _ _ H' _ Rx.rebase fun v H3 S3 k3 r3=>?_;have R3:=Rx.bN S3;obtain ⟨ex,e3',kx⟩:=k3.front;subst e3';have p:Pr (FF F0 e1 σ) H' H3:=by have:=Rx.qe S3.d5;rwa [frontF (KpE.refl _)] at this
         have a3:=r3.av;rw [hv] at a3;have dv:Dm K (FF F0 e1 σ) H3 dy v:=by
          have:Dm K (FF (FF F0 e1 σ) (xs.map .dat++ex) (vs.map some++b8 js σ)) H3 dy v:=a3
          rwa [frontF kx] at this
         have ed:(xs.map Sl.dat++ex).drop n.length=ex:=by rw [<- hxl,<-IK (f:=Sl.dat),K6]
         rw [ed] at hN;exact hN _ _ H3 ⟨vs.map some,by rw [IK];exact hvl,rfl⟩ (R3.behind hpre hpl) kx p ⟨v,rfl,dv⟩
        ·cases hs
       ·cases hs
      ·cases hs
     ·cases hs
    ·intro acc H' R' hd hz p hp;have eF:=(bt e1 js ec).ff (F0:=F0) (σ:=σ);have s:=bf.nw (.lst acc) hp;exact q _ _ (R'.same s) (k1.trans (bt e1 js ec).kp) (R'.mJ (pr:=.frs (.list ys)) s ⟨p,rfl,hp,acc,aF,hz,by rw [eF];exact (hd.fresh hp).pr (Pr.of_same s) fun _ z=>z⟩)
   ·cases h
  ·cases h
 ·cases h
mutual
theorem sE (hg:∀ g d,gd[g]?=some d->∀ F H,Dm K F H d (ga g)):∀ e:XE,SE K ga gd e
 | .var i=>Gu i | .mov i=>FT i | .tke i=>D9 i | .cst c=>Ea c | .glb g=>GJ hg g
 | .prm p as=>GC (sA hg as) | .met m o as=>D1 (sE hg o) (sA hg as) | .mtr m i as=>El (sA hg as) | .call f as=>s_call (sA hg as)
 | .tup as=>FL (sA hg as) | .lst as=>FZ (sA hg as) | .dsp as=>Eu (sPs hg as) | .fst as=>EM (sF hg as)
 | .ifx c a b=>FO (sT hg c) (sE hg a) (sE hg b) | .qp a b=>C0 (sE hg a) (sE hg b) | .orv a b=>FV (sE hg a) (sE hg b) | .Ah a=>Dc (sE hg a)
 | .chn p q a b c=>EL (sE hg a) (sE hg b) (sE hg c) | .sl2 p a b c=>F3 (sE hg a) (sE hg b) (sE hg c)
 | .cmp js it c e=>FH (sI hg it) (sT hg c) (sE hg e) | .B3 n js it e=>BU (sI hg it) (sE hg e)
theorem sA (hg:∀ g d,gd[g]?=some d->∀ F H,Dm K F H d (ga g)):∀ e:XA,SA K ga gd e
 | .nil=>Fo | .cons e r=>Ax (sE hg e) (sA hg r)
theorem sF (hg:∀ g d,gd[g]?=some d->∀ F H,Dm K F H d (ga g)):∀ e:XA,SF K ga gd e
 | .nil=>EX | .cons e r=>CM (sE hg e) (sF hg r)
theorem sPs (hg:∀ g d,gd[g]?=some d->∀ F H,Dm K F H d (ga g)):∀ e:XP,SPs K ga gd e
 | .nil=>E1 | .cons k e r=>Bb (sE hg k) (sE hg e) (sPs hg r)
theorem sT (hg:∀ g d,gd[g]?=some d->∀ F H,Dm K F H d (ga g)):∀ e:XT,ST K ga gd e
 | .tst e=>D6 (sE hg e) | .tru e=>FK (sE hg e) | .and a b=>Fl (sT hg a) (sT hg b) | .or a b=>IC (sT hg a) (sT hg b) | .not a=>GB (sT hg a) | .yes=>Gp
theorem sI (hg:∀ g d,gd[g]?=some d->∀ F H,Dm K F H d (ga g)):∀ e:XI,SI K ga gd e
 | .lst e=>zg (sE hg e) | .tup e=>CQ (sE hg e) | .str e=>E6 (sE hg e) | .rng1 as=>De (sA hg as) | .rng2 as=>BV (sA hg as) | .dct e=>Fb (sE hg e) | .sq e=>HS (sE hg e) | .zip as=>Gk (sA hg as)
end
end
end L2
end
section
namespace L2
open PySem
section
variable {K:Fg} {F F' I I' F0:Addr->Prop} {H H' H₀ H1:Hp} {env env' e1:En} {σ σ':St} {ga:Nat->V} {gd:List PyData}
theorem LsF.bE {a:Addr} {xs:List V} (h:LsF K F H a xs):LsF K (fun b=>F b\/H b=none) H a xs:=by
 rcases h with ⟨n,h⟩ | h
 ·refine .inl ⟨fun z=>z.elim n fun e=>?_,h⟩;rcases h with h | ⟨o,h⟩ <;> (rw [e] at h;cases h)
 ·exact .inr h
mutual
theorem Dm.bE:∀ {d:PyData} {v:V},Dm K F H d v->Dm K (fun b=>F b\/H b=none) H d v
 | .none,v,h=>h
 | .bool b,v,h=>h
 | .int i,v,h=>h
 | .str x,v,h=>h
 | .list ds,v,h=>by
  obtain ⟨a,xs,e,l,z,r⟩:=h;exact ⟨a,xs,e,l.bE,z,DmL.bE r⟩
 | .tuple ds,v,h=>by
  obtain ⟨a,xs,e,l,z,r⟩:=h;exact ⟨a,xs,e,l,z,DmL.bE r⟩
 | .dict kvs,v,h=>by
  obtain ⟨a,ep,xs,e,n,l,z,r⟩:=h;exact ⟨a,ep,xs,e,fun q=>q.elim n fun q=>(by rw [q] at l;cases l),l,z,DmP.bE r⟩
theorem DmL.bE:∀ {ds:List PyData} {vs:List V},DmL K F H ds vs->DmL K (fun b=>F b\/H b=none) H ds vs
 | [],vs,h=>h
 | d :: ds,vs,h=>by
  obtain ⟨v,r,e,h1,h2⟩:=h;exact ⟨v,r,e,Dm.bE h1,DmL.bE h2⟩
theorem DmP.bE:∀ {ds:List (PyData×PyData)} {vs:List (PyData×V×V)},DmP K F H ds vs->DmP K (fun b=>F b\/H b=none) H ds vs
 | [],vs,h=>h
 | (k,d) :: ds,vs,h=>by
  obtain ⟨j,v,r,e,e2,h0,h1,h2⟩:=h;exact ⟨j,v,r,e,e2,Dm.bE h0,Dm.bE h1,DmP.bE h2⟩
end
theorem Top.bE {d:PyData} {a:Addr} (h:Top K F H d a):Top K (fun b=>F b\/H b=none) H d a:=by
 cases d with
 | list ds=>obtain ⟨xs,e,z,r⟩:=h;exact ⟨xs,e,z,r.bE⟩
 | dict ds=>obtain ⟨ep,xs,e,z,r⟩:=h;exact ⟨ep,xs,e,z,r.bE⟩
 | _=>exact absurd h id
theorem gn.bE {d:PyData} {a:Addr} (h:gn K F I H d a):gn K (fun b=>F b\/H b=none) (fun b=>I b\/H b=none) H d a:=by
 cases d with
 | list ds=>obtain ⟨xs,e,z,r⟩:=h;exact ⟨xs,e.bE,z,r.bE⟩
 | dict ds =>
  obtain ⟨ep,xs,n,e,z,r⟩:=h;exact ⟨ep,xs,fun q=>q.elim n fun q=>(by rw [q] at e;cases e),e,z,r.bE⟩
 | _=>exact absurd h id
theorem Pr.G9 (p:Pr F H H') (h:∀ b,F b->F' b):Pr F' H H':=fun b o e n=>p b o e (n.imp (fun z q=>z (h _ q)) id)
def Evs:Sl->Sl->Prop
 | .ino _,s=>∃ d,s=.ino d
 | .ro d,s=>s=.ro d
 | _,s=>(∀ d,s≠.ino d)/\∀ d,s≠.ro d
def A5:Sl->Prop | .ino _=>True | .ro _=>True | _=>False
def KpS (env:En) (σ:St) (env':En) (σ':St):Prop:=env'.length=env.length/\∀ (i:Nat) (s:Sl),env[i]?=some s->∃ s',env'[i]?=some s'/\Evs s s'/\(A5 s->σ'[i]?=σ[i]?)
theorem Evs.refl:∀ s,Evs s s
 | .un=>⟨fun _=>nofun,fun _=>nofun⟩
 | .dat _=>⟨fun _=>nofun,fun _=>nofun⟩
 | .own d=>⟨fun _=>nofun,fun _=>nofun⟩
 | .ino d=>⟨d,rfl⟩
 | .ro _=>rfl
def soft (s:Sl):Prop:=(∀ d,s≠.ino d)/\∀ d,s≠.ro d
theorem Evs.soft {s s':Sl} (h:Evs s s') (q:L2.soft s):L2.soft s':=by
 cases s with
 | ino d=>exact absurd rfl (q.1 d)
 | ro d=>exact absurd rfl (q.2 d)
 | _=>exact h
theorem Evs.of {s s':Sl} (q:L2.soft s) (q':L2.soft s'):Evs s s':=by
 cases s with
 | ino d=>exact absurd rfl (q.1 d)
 | ro d=>exact absurd rfl (q.2 d)
 | _=>exact q'
theorem Evs.trans {a b c:Sl} (h:Evs a b) (q:Evs b c):Evs a c:=by
 cases a with
 | ino d=>obtain ⟨d',rfl⟩:=h;exact q
 | ro d=>rw [show b=.ro d from h] at q;exact q
 | un=>exact Evs.of ⟨fun _=>nofun,fun _=>nofun⟩ (q.soft h)
 | dat _=>exact Evs.of ⟨fun _=>nofun,fun _=>nofun⟩ (q.soft h)
 | own _=>exact Evs.of ⟨fun _=>nofun,fun _=>nofun⟩ (q.soft h)
theorem Evs.A5 {a b:Sl} (h:Evs a b) (q:L2.A5 a):L2.A5 b:=by
 cases a with
 | ino d=>obtain ⟨d',rfl⟩:=h;trivial
 | ro d=>rw [show b=.ro d from h];trivial
 | _=>exact absurd q id
theorem KpS.refl (env:En) (σ:St):KpS env σ env σ:=⟨rfl,fun i s e=>⟨s,e,.refl s,fun _=>rfl⟩⟩
theorem KpS.trans {a b c:En} {x y z:St} (h:KpS a x b y) (q:KpS b y c z):KpS a x c z:=⟨q.1.trans h.1,fun i s e=>by
 obtain ⟨s1,e1,v1,w1⟩:=h.2 i s e;obtain ⟨s2,e2,v2,w2⟩:=q.2 i s1 e1
 exact ⟨s2,e2,v1.trans v2,fun t=>(w2 (v1.A5 t)).trans (w1 t)⟩⟩
theorem KpE.s (k:KpE env env'):KpS env σ env' σ:=⟨k.1,fun i s e=>by
 obtain ⟨s',e',v⟩:=k.2 i s e;refine ⟨s',e',?_,fun _=>rfl⟩;cases s with
 | un=>rw [show s'=.un from v];exact .refl _
 | dat d=>rw [show s'=.dat d from v];exact .refl _
 | own d=>rcases v with ⟨d',rfl⟩ | ⟨d',rfl⟩ | rfl <;> exact ⟨fun _=>nofun,fun _=>nofun⟩
 | ino d=>exact v
 | ro d=>exact v⟩
theorem i5 {i:Nat} (h:free env i=true):∃ s,env[i]?=some s/\L2.soft s:=by
 unfold free at h;split at h
 ·rename_i e;exact ⟨_,e,fun _=>nofun,fun _=>nofun⟩
 ·rename_i e;exact ⟨_,e,fun _=>nofun,fun _=>nofun⟩
 ·rename_i e;exact ⟨_,e,fun _=>nofun,fun _=>nofun⟩
 ·cases h
theorem uc {i:Nat} {s s':Sl} {x:Option V} (e:env[i]?=some s) (q:L2.soft s) (q':L2.soft s'):KpS env σ (env.set i s') (σ.set i x):=by
 have hi:i < env.length:=(IL.mp e).1;refine ⟨Jy,fun j t h=>?_⟩;by_cases z:i=j
 ·subst z;rw [e] at h;cases h;refine ⟨s',Jc hi,.of q q',fun t=>?_⟩;cases s with
  | ino d=>exact absurd rfl (q.1 d)
  | ro d=>exact absurd rfl (q.2 d)
  | _=>exact absurd t id
 ·exact ⟨t,by rw [IM z];exact h,.refl t,fun _=>by rw [IM z]⟩
def mG (K:Fg) (F0:Addr->Prop) (H₀:Hp) (I:Addr->Prop) (env:En) (σ:St) (D:Ends):Out->Prop
 | .nx e=>∀ σ' H',Rel K F0 H₀ I e σ' H'->KpS env σ e σ'->D.nx σ' H'
 | .bk e=>∀ σ' H',Rel K F0 H₀ I e σ' H'->KpS env σ e σ'->D.bk σ' H'
 | .ct e=>∀ σ' H',Rel K F0 H₀ I e σ' H'->KpS env σ e σ'->D.ct σ' H'
 | .rt rv e=>∀ v σ' H',Rel K F0 H₀ I e σ' H'->KpS env σ e σ'->fk K F0 H₀ I e σ' H' rv v->D.rt v H'
def SS (K:Fg) (ga:Nat->V) (gd:List PyData) (s:XS):Prop:=∀ (env:En) (out:Out),dS gd s env=some out->∀ (F0:Addr->Prop) (H₀:Hp) (I:Addr->Prop) (σ:St) (H:Hp) (D:Ends),Rel K F0 H₀ I env σ H->mG K F0 H₀ I env σ D out->rS K ga s D σ H
theorem mG.from {D:Ends} {out:Out} (k:KpS env σ env' σ') (h:mG K F0 H₀ I env σ D out):mG K F0 H₀ I env' σ' D out:=by
 cases out with
 | nx e=>exact fun s h1 r q=>h s h1 r (k.trans q)
 | bk e=>exact fun s h1 r q=>h s h1 r (k.trans q)
 | ct e=>exact fun s h1 r q=>h s h1 r (k.trans q)
 | rt rv e=>exact fun v s h1 r q w=>h v s h1 r (k.trans q) w
theorem AG {a b:XS} (ia:SS K ga gd a) (ib:SS K ga gd b):SS K ga gd (.seq a b):=by
 intro env out h F0 H₀ I σ H D R q;simp only [dS] at h;split at h
 ·rename_i e h1;refine ia _ _ h1 F0 H₀ I σ H _ R fun σ' H' R' k'=>?_;exact ib _ _ h F0 H₀ I σ' H' D R' (q.from k')
 ·rename_i hn;refine ia _ _ h F0 H₀ I σ H _ R ?_;cases out with
  | nx e=>exact absurd h (hn e)
  | bk e=>exact q
  | ct e=>exact q
  | rt rv e=>exact q
theorem Rel.FR (R:Rel K F0 H₀ I env σ H) {i:Nat} {d:PyData} {v:V} (hf:free env i=true) (h:Dm K (FF F0 env σ) H d v):Rel K F0 H₀ I (env.set i (.dat d)) (σ.set i (some v)) H/\KpS env σ (env.set i (.dat d)) (σ.set i (some v)):=by
 obtain ⟨s,e,q⟩:=i5 hf;have hi:i < env.length:=(IL.mp e).1;have R1:=R.forget i (some v);have:=R1.putD (i:=i) (d:=d) (v:=v) (Jc hi) (h.mono (R.sub i _).1);rw [Ki,Ki] at this;exact ⟨this,uc e q ⟨fun _=>nofun,fun _=>nofun⟩⟩
theorem yn {i:Nat} {e:XE} (ie:SE K ga gd e):SS K ga gd (.fO i e):=by
 intro env out h F0 H₀ I σ H D R q;simp only [dS] at h;split at h
 ·rename_i rv e1 h1;split at h
  ·rename_i d hv;split at h
   ·rename_i hf;cases h;refine ie _ _ _ h1 F0 H₀ I σ H _ R fun v H1 R1 k1 r1=>?_;have a1:=r1.av;rw [hv] at a1;obtain ⟨R2,k2⟩:=R1.FR hf (show Dm K _ H1 d v from a1);exact q _ H1 R2 (k1.s.trans k2)
   ·cases h
  ·cases h
 ·cases h
theorem fk.forget {d:PyData} {v:V} (h:fk K F0 H₀ I env σ H (.frs d) v) (i:Nat) (x:Option V) (hs:∀ s,env[i]?=some s->L2.soft s):fk K F0 H₀ I (env.set i .un) (σ.set i x) H (.frs d) v:=by
 obtain ⟨a,ea,R,t,w,nF,hi,hr⟩:=h;have R0:=R.less hi;obtain ⟨hf,hia⟩:=R0.sub i x;have hf':∀ b,(FF F0 (env.set i .un) (σ.set i x) b\/b=a)->(FF F0 env σ b\/b=a):=fun b z=>z.imp (hf b) id;refine ⟨a,ea,R.forget i x,t.pr Pr.refl hf' fun _ z=>z,w,fun z=>nF (hf _ z),fun j c e s=>?_,fun j c e=>?_⟩
 ·rcases get_set e with ⟨_,z⟩ | ⟨n,e⟩
  ·cases z
  ·rw [IM n] at s;exact hi j c e s
 ·rcases get_set e with ⟨_,z⟩ | ⟨n,e⟩
  ·cases z
  ·obtain ⟨b,s,r⟩:=hr j c e;exact ⟨b,by rw [IM n];exact s,r.pr Pr.refl hf' (fun b z=>z.imp (hia b) id) fun _ _ z _=>z⟩
theorem zP {i:Nat} {e:XE} (ie:SE K ga gd e):SS K ga gd (.ve i e):=by
 intro env out h F0 H₀ I σ H D R q;simp only [dS] at h;split at h
 ·rename_i d e1 h1;split at h
  ·rename_i hf;cases h;refine ie _ _ _ h1 F0 H₀ I σ H _ R fun v H1 R1 k1 r1=>?_;obtain ⟨s,e,qs⟩:=i5 hf;have hi:i < e1.length:=(IL.mp e).1;have ev:∃ a,v=.ref a:=let ⟨a,e,_⟩:=r1;⟨a,e⟩
   obtain ⟨a,rfl⟩:=ev;have r2:=r1.forget i (some (.ref a)) (fun s' h=>by rw [e] at h;cases h;exact qs);have R2:=Rel.G2 (i:=i) (Jc hi) r2;rw [Ki,Ki] at R2;exact q _ H1 R2 (k1.s.trans (uc e qs ⟨fun _=>nofun,fun _=>nofun⟩))
  ·cases h
 ·cases h
theorem nZ:∀ {is:List Nat} {ds:List PyData} {vs:List V} {env env':En} {σ:St} {Q:St->Hp->Prop},fU env is ds=some env'->Rel K F0 H₀ I env σ H->DmL K (FF F0 env σ) H ds vs->(∀ σ',Rel K F0 H₀ I env' σ' H->KpS env σ env' σ'->Q σ' H)->gNs is vs σ H Q
 | [],[],vs,env,env',σ,Q,h,R,hd,q=>by
  cases h;exact ⟨hd,q σ R (KpS.refl _ _)⟩
 | [],d :: ds,vs,env,env',σ,Q,h,R,hd,q=>by cases h
 | i :: is,[],vs,env,env',σ,Q,h,R,hd,q=>by cases h
 | i :: is,d :: ds,vs,env,env',σ,Q,h,R,hd,q=>by
  unfold fU at h;split at h
  ·rename_i hf;obtain ⟨v,r,rfl,h1,h2⟩:=hd;obtain ⟨R1,k1⟩:=R.FR hf h1;obtain ⟨s,e,qs⟩:=i5 hf;refine ⟨v,r,rfl,?_⟩;refine nZ h R1 (h2.mono fun b z=>?_) fun σ' R' k'=>q σ' R' (k1.trans k');rcases z with z | ⟨j,c,e',s'⟩
   ·exact .inl z
   ·rcases get_set e' with ⟨_,y⟩ | ⟨n,e'⟩
    ·cases y
    ·rw [IM n] at s';exact .inr ⟨j,c,e',s'⟩
  ·cases h
theorem yu {is:List Nat} {e:XE} (ie:SE K ga gd e):SS K ga gd (.C5 is e):=by
 intro env out h F0 H₀ I σ H D R q;simp only [dS] at h;split at h
 ·rename_i rv e1 h1;split at h
  ·rename_i ds hv;split at h
   ·rename_i e2 hset;cases h;refine ie _ _ _ h1 F0 H₀ I σ H _ R fun v H1 R1 k1 r1=>?_;have a1:=r1.av;rw [hv] at a1;obtain ⟨a,xs,rfl,l,z,r⟩:=(show Dm K (FF F0 e1 σ) H1 (.tuple ds) v from a1);have hlen:∀ {is:List Nat} {ds:List PyData} {e e':En},fU e is ds=some e'->is.length=ds.length:=by
     intro is;induction is with
     | nil=>intro ds e e' h;cases ds with
      | nil=>rfl
      | cons _ _=>cases h
     | cons i is ih=>intro ds e e' h;cases ds with
      | nil=>cases h
      | cons d ds =>
       unfold fU at h;split at h
       ·rw [Jk,Jk,ih h]
       ·cases h
    exact ⟨a,xs,rfl,l,by rw [r.len,hlen hset],nZ hset R1 r fun σ' R' k'=>q σ' H1 R' (k1.s.trans k')⟩
   ·cases h
  ·cases h
 ·cases h
theorem zi {e:XE} (ie:SE K ga gd e):SS K ga gd (.drop e):=by
 intro env out h F0 H₀ I σ H D R q;simp only [dS] at h;split at h
 ·rename_i rv e1 h1;cases h;exact ie _ _ _ h1 F0 H₀ I σ H _ R fun v H1 R1 k1 r1=>q σ H1 R1 k1.s
 ·cases h
theorem BG {e:XE} (ie:SE K ga gd e):SS K ga gd (.ret e):=by
 intro env out h F0 H₀ I σ H D R q;simp only [dS] at h;split at h
 ·rename_i rv e1 h1;cases h;exact ie _ _ _ h1 F0 H₀ I σ H _ R fun v H1 R1 k1 r1=>q v σ H1 R1 k1.s r1
 ·cases h
theorem Ci {c:XT} {a b:XS} (ic:ST K ga gd c) (ia:SS K ga gd a) (ib:SS K ga gd b):SS K ga gd (.ifs c a b):=by
 intro env out h F0 H₀ I σ H D R q;simp only [dS] at h;split at h
 ·rename_i e1 h1;refine ic _ _ _ h1 F0 H₀ I σ H _ R fun H1 R1 k1=>?_;rw [IX rfl];exact ia _ _ h F0 H₀ I σ H1 D R1 (q.from k1.s)
 ·rename_i e1 h1;refine ic _ _ _ h1 F0 H₀ I σ H _ R fun H1 R1 k1=>?_;rw [IV (by decide)];exact ib _ _ h F0 H₀ I σ H1 D R1 (q.from k1.s)
 ·cases h
theorem An {m:xR} {i:Nat} {k e:XE} (ik:SE K ga gd k) (ie:SE K ga gd e):SS K ga gd (.sto m i k e):=by
 intro env out h F0 H₀ I σ H D R q;simp only [dS] at h;split at h
 ·rename_i rv e1 h1;split at h
  ·rename_i x hv;split at h
   ·rename_i d0 hm0;split at h
    ·rename_i rk e2 h2;split at h
     ·rename_i dk d hvk hm;split at h
      ·rename_i d' hf;cases h;refine ie _ _ _ h1 F0 H₀ I σ H _ R fun v H1 R1 k1 r1=>?_;obtain ⟨_,a,s,_⟩:=R1.dX hm0;refine ⟨.ref a,s,?_⟩;refine ik _ _ _ h2 F0 _ _ σ H1 _ R1.rebase fun u H2 S2 k2 r2=>?_;have R2:=R1.bN S2;have a1:=r1.av;rw [hv] at a1;have dx:=R1.pU S2 k2 (show Dm K _ H1 x v from a1);obtain ⟨m2,a',s',f2,t2⟩:=R2.dX hm;rw [s] at s';cases s';refine m.ok K _ H2 d a dk x u v d' _ hf f2 t2 (r2.av.vw R2 hvk) dx fun H3 hk ht=>?_;exact q σ H3 (R2.G1 hm s hk ht) ((k1.trans k2).trans (vh _ _ _)).s
      ·cases h
     ·cases h
    ·cases h
   ·cases h
  ·cases h
 ·cases h
theorem F6 {n:Nat} {c:XT} {b:XS} (ic:ST K ga gd c) (ib:SS K ga gd b):SS K ga gd (.wh n c b):=by
 intro env out h F0 H₀ I σ H D R q;simp only [dS] at h;refine ⟨fun m σ' H'=>∃ env',whL (dT gd c) (dS gd b) m env'=some out/\Rel K F0 H₀ I env' σ' H'/\KpS env σ env' σ',⟨n,env,h,R,KpS.refl _ _⟩,?_⟩;rintro m σ' H' ⟨env',hw,R',k'⟩;cases m with
 | zero=>cases hw
 | succ m =>
  unfold whL at hw;split at hw
  ·rename_i e1 h1;refine ic _ _ _ h1 F0 H₀ I σ' H' _ R' fun H2 R2 k2=>?_;rw [IX rfl];refine ⟨fun σ3 H3=>∃ env3,whL (dT gd c) (dS gd b) m env3=some out/\Rel K F0 H₀ I env3 σ3 H3/\KpS env σ env3 σ3,fun σ3 H3 z=>⟨m,Kx _,z⟩,?_⟩;split at hw
   ·rename_i e hb;exact ib _ _ hb F0 H₀ I σ' H2 _ R2 fun σ3 H3 R3 k3=>⟨e,hw,R3,(k'.trans k2.s).trans k3⟩
   ·rename_i e hb;exact ib _ _ hb F0 H₀ I σ' H2 _ R2 fun σ3 H3 R3 k3=>⟨e,hw,R3,(k'.trans k2.s).trans k3⟩
   ·rename_i e hb;cases hw;exact ib _ _ hb F0 H₀ I σ' H2 _ R2 fun σ3 H3 R3 k3=>q σ3 H3 R3 ((k'.trans k2.s).trans k3)
   ·rename_i r e hb;cases hw;exact ib _ _ hb F0 H₀ I σ' H2 _ R2 fun v σ3 H3 R3 k3 r3=>q v σ3 H3 R3 ((k'.trans k2.s).trans k3) r3
   ·cases hw
  ·rename_i e1 h1;cases hw;refine ic _ _ _ h1 F0 H₀ I σ' H' _ R' fun H2 R2 k2=>?_;rw [IV (by decide)];exact q σ' H2 R2 (k'.trans k2.s)
  ·cases hw
end
end L2
end
section
namespace L2
open PySem
section
variable {K:Fg} {F F' I I' F0:Addr->Prop} {H H' H₀ H1:Hp} {env env' e1:En} {σ σ':St} {ga:Nat->V} {gd:List PyData}
theorem Rel.Fj (R:Rel K F0 H₀ I env σ H) (h:∀ b,I b->I' b):Rel K F0 H₀ I' env σ H :=
 ⟨R.len,R.dat,fun i d e=>let ⟨a,s,n,w,t⟩:=R.own i d e;⟨a,s,n,w.imp id (h _),t⟩,fun i d e=>let ⟨a,s,n,w,t⟩:=R.ino i d e;⟨a,s,n,h _ w,t⟩,R.ro,R.sep,R.dom,fun b o e n=>R.d5 b o e fun z=>n (h _ z)⟩
theorem Rel.eqF {F1:Addr->Prop} (R:Rel K F0 H₀ I env σ H) (h:∀ b,F0 b↔F1 b):Rel K F1 H₀ I env σ H:=by
 have:F0=F1:=funext fun b=>propext (h b);exact this▸R
theorem Rel.GK (R:Rel K F0 H₀ I env σ H) {i:Nat} {d:PyData} {a:Addr} (hu:env[i]?=some .un) (s:σ[i]?=some (some (.ref a))) (h:gn K (FF F0 env σ) (IA env σ) H d a):Rel K F0 H₀ I (env.set i (.ro d)) σ H:=by
 have hi:i < env.length:=(IL.mp hu).1;have eF:FF F0 (env.set i (.ro d)) σ=FF F0 env σ:=by
  have:=kA (F0:=F0) (σ:=σ) (s:=.ro d) (x:=some (.ref a)) hu (fun _=>nofun)
  rwa [set_same s] at this
 have eI:IA (env.set i (.ro d)) σ=IA env σ:=by
  have:=tW (σ:=σ) (s:=.ro d) (x:=some (.ref a)) hu (fun _=>⟨nofun,nofun⟩)
  rwa [set_same s] at this
 have mm:∀ j,mu (env.set i (.ro d)) j->mu env j:=fun j h=>by
  obtain ⟨c,e | e⟩:=h
  ·rcases get_set e with ⟨_,z⟩ | ⟨n,e⟩
   ·cases z
   ·exact ⟨c,.inl e⟩
  ·rcases get_set e with ⟨_,z⟩ | ⟨n,e⟩
   ·cases z
   ·exact ⟨c,.inr e⟩
 refine ⟨by rw [Jy];exact R.len,fun j c e=>?_,fun j c e=>?_,fun j c e=>?_,fun j c e=>?_,fun j k b h1 h2 h3 h4=>R.sep j k b (mm j h1) (mm k h2) h3 h4,R.dom,R.d5⟩
 ·rw [eF];rcases get_set e with ⟨_,z⟩ | ⟨n,e⟩
  ·cases z
  exact R.dat j c e
 ·rw [eF];rcases get_set e with ⟨_,z⟩ | ⟨n,e⟩
  ·cases z
  exact R.own j c e
 ·rw [eF];rcases get_set e with ⟨_,z⟩ | ⟨n,e⟩
  ·cases z
  exact R.ino j c e
 ·rw [eF,eI];rcases get_set e with ⟨z,y⟩ | ⟨n,e⟩
  ·subst z;cases y;exact ⟨a,s,h⟩
  exact R.ro j c e
theorem Rel.Ic (R:Rel K F0 H₀ I env σ H) {i:Nat} {d:PyData} {a:Addr} (hu:env[i]?=some .un) (s:σ[i]?=some (some (.ref a))) (h:Top K (FF F0 env σ) H d a) (hF:F0 a) (hI:I a) (na:∀ j,mu env j->σ[j]?≠some (some (.ref a)))
  (hro:∀ (j:Nat) (c:PyData),env[j]?=some (.ro c)->∃ b,σ[j]?=some (some (.ref b))/\gn K (FF F0 env σ) (fun b=>IA env σ b\/b=a) H c b):Rel K F0 H₀ I (env.set i (.ino d)) σ H:=by
 have hi:i < env.length:=(IL.mp hu).1;have eF:FF F0 (env.set i (.ino d)) σ=FF F0 env σ:=by
  have:=kA (F0:=F0) (σ:=σ) (s:=.ino d) (x:=some (.ref a)) hu (fun _=>nofun)
  rwa [set_same s] at this
 have mm:∀ j,mu (env.set i (.ino d)) j->i=j\/(mu env j/\i≠j):=fun j h=>by
  obtain ⟨c,e | e⟩:=h
  ·rcases get_set e with ⟨z,_⟩ | ⟨n,e⟩
   ·exact .inl z
   ·exact .inr ⟨⟨c,.inl e⟩,n⟩
  ·rcases get_set e with ⟨z,_⟩ | ⟨n,e⟩
   ·exact .inl z
   ·exact .inr ⟨⟨c,.inr e⟩,n⟩
 have eI:∀ b,IA (env.set i (.ino d)) σ b->IA env σ b\/b=a:=by
  rintro b ⟨j,m,q⟩;rcases mm j m with z | ⟨m',n⟩
  ·subst z;rw [s] at q;cases q;exact .inr rfl
  ·exact .inl ⟨j,m',q⟩
 refine ⟨by rw [Jy];exact R.len,fun j c e=>?_,fun j c e=>?_,fun j c e=>?_,fun j c e=>?_,fun j k b h1 h2 h3 h4=>?_,R.dom,R.d5⟩
 ·rw [eF];rcases get_set e with ⟨_,z⟩ | ⟨n,e⟩
  ·cases z
  exact R.dat j c e
 ·rw [eF];rcases get_set e with ⟨_,z⟩ | ⟨n,e⟩
  ·cases z
  exact R.own j c e
 ·rw [eF];rcases get_set e with ⟨z,y⟩ | ⟨n,e⟩
  ·subst z;cases y;exact ⟨a,s,hF,hI,h⟩
  exact R.ino j c e
 ·rw [eF];rcases get_set e with ⟨_,z⟩ | ⟨n,e⟩
  ·cases z
  obtain ⟨b,q,r⟩:=hro j c e;exact ⟨b,q,r.pr Pr.refl (fun _ z=>z) eI fun _ _ z _=>z⟩
 ·rcases mm j h1 with z1 | ⟨m1,n1⟩
  ·rcases mm k h2 with z2 | ⟨m2,n2⟩
   ·rw [<- z1,<-z2]
   ·rw [<- z1,s] at h3;cases h3;exact absurd h4 (na k m2)
  ·rcases mm k h2 with z2 | ⟨m2,n2⟩
   ·rw [<- z2,s] at h4;cases h4;exact absurd h3 (na j m1)
   ·exact R.sep j k b m1 m2 h3 h4
structure Lk (K:Fg) (F0:Addr->Prop) (H₀:Hp) (I:Addr->Prop) (e1:En) (σ:St) (H1:Hp) (lock:Option Nat) (F1:Addr->Prop):Prop where
 rel:Rel K F1 H₀ I (cu e1 lock) σ H1
 ff:FF F1 (cu e1 lock) σ=FF F0 e1 σ
 ia:∀ b,IA (cu e1 lock) σ b->IA e1 σ b/\∀ i,lock=some i->mu e1 i->σ[i]?≠some (some (.ref b))
 un:∀ env' σ' H',Rel K F1 H1 (IA (cu e1 lock) σ) env' σ' H'->KpS (cu e1 lock) σ env' σ'->Rel K F0 H₀ I (aM e1 lock env') σ' H'/\KpS e1 σ (aM e1 lock env') σ'/\FF F0 (aM e1 lock env') σ'=FF F1 env' σ'
theorem Lk.uC (R:Rel K F0 H₀ I e1 σ H1) {lock:Option Nat} (h1:cu e1 lock=e1) (h2:∀ env',aM e1 lock env'=env') (h3:∀ i,lock=some i->¬mu e1 i):Lk K F0 H₀ I e1 σ H1 lock F0 :=
 ⟨by rw [h1];exact R,by rw [h1],fun b hb=>by rw [h1] at hb;exact ⟨hb,fun i hi m=>absurd m (h3 i hi)⟩,fun env' σ' H' S k=>by rw [h1] at S k;rw [h2];exact ⟨R.bN S,k,rfl⟩⟩
theorem Lk.Dk (R:Rel K F0 H₀ I e1 σ H1) {i:Nat} {d:PyData} {a:Addr} (e:e1[i]?=some (.own d)\/e1[i]?=some (.ino d)) (s:σ[i]?=some (some (.ref a))):Lk K F0 H₀ I e1 σ H1 (some i) (fun b=>F0 b\/b=a):=by
 have hi:i < e1.length:=by rcases e with e | e <;> exact (IL.mp e).1
 have mi:mu e1 i:=⟨d,e⟩;have el:cu e1 (some i)=e1.set i (.ro d):=by simp only [cu];rcases e with e | e <;> rw [e]
 have hm:br e1 i=some d:=by unfold br;rcases e with e | e <;> rw [e]
 obtain ⟨_,a',s',fa,ta⟩:=R.dX hm;rw [s] at s';cases s';have hu:(e1.set i .un)[i]?=some .un:=Jc hi;have mmu:∀ j,mu (e1.set i .un) j->mu e1 j/\i≠j:=fun j h=>by
  obtain ⟨c,e | e⟩:=h
  ·rcases get_set e with ⟨_,z⟩ | ⟨n,e⟩
   ·cases z
   ·exact ⟨⟨c,.inl e⟩,n⟩
  ·rcases get_set e with ⟨_,z⟩ | ⟨n,e⟩
   ·cases z
   ·exact ⟨⟨c,.inr e⟩,n⟩
 have nIA:¬IA (e1.set i .un) σ a:=fun ⟨j,m,q⟩=>(mmu j m).2 (R.sep i j a mi (mmu j m).1 s q);have eFu:FF (fun b=>F0 b\/b=a) (e1.set i .un) σ=FF F0 e1 σ:=by
  funext b;apply propext;constructor
  ·rintro ((h | h) | ⟨j,c,e',q⟩)
   ·exact .inl h
   ·exact h▸fa
   ·rcases get_set e' with ⟨_,z⟩ | ⟨n,e'⟩
    ·cases z
    ·exact .inr ⟨j,c,e',q⟩
  ·rintro (h | ⟨j,c,e',q⟩)
   ·exact .inl (.inl h)
   ·by_cases n:i=j
    ·subst n;rw [s] at q;cases q;exact .inl (.inr rfl)
    ·exact .inr ⟨j,c,by rw [IM n];exact e',q⟩
 have Ru:Rel K (fun b=>F0 b\/b=a) H₀ I (e1.set i .un) σ H1:=by
  rcases e with e | e
  ·obtain ⟨a2,s2,r⟩:=R.take e;rw [s] at s2;cases s2;obtain ⟨a3,ea,R',_⟩:=r;cases ea;exact R'
  ·have:=R.forget i (some (.ref a));rw [set_same s] at this;obtain ⟨a2,s2,f2,_⟩:=R.ino i d e;rw [s] at s2;cases s2;exact this.eqF fun b=>⟨.inl,fun z=>z.elim id fun z=>z▸f2⟩
 have Rl:Rel K (fun b=>F0 b\/b=a) H₀ I (e1.set i (.ro d)) σ H1:=by
  have:=Ru.GK (d:=d) hu s (by rw [eFu];exact ta.ro nIA)
  rwa [Ki] at this
 have eFl:FF (fun b=>F0 b\/b=a) (e1.set i (.ro d)) σ=FF F0 e1 σ:=by
  rw [<- eFu];have:=kA (F0:=fun b=>F0 b\/b=a) (σ:=σ) (s:=.ro d) (x:=some (.ref a)) hu (fun _=>nofun)
  rwa [set_same s,Ki] at this
 have eIl:IA (e1.set i (.ro d)) σ=IA (e1.set i .un) σ:=by
  have:=tW (σ:=σ) (s:=.ro d) (x:=some (.ref a)) hu (fun _=>⟨nofun,nofun⟩)
  rwa [set_same s,Ki] at this
 have iaSub:∀ b,IA (e1.set i (.ro d)) σ b->IA e1 σ b:=fun b hb=>by rw [eIl] at hb;obtain ⟨j,m,q⟩:=hb;exact ⟨j,(mmu j m).1,q⟩
 refine ⟨by rw [el];exact Rl,by rw [el];exact eFl,fun b hb=>?_,fun env' σ' H' S k=>?_⟩
 ·rw [el,eIl] at hb;obtain ⟨j,m,q⟩:=hb;refine ⟨⟨j,(mmu j m).1,q⟩,fun i' hi' mi' si'=>?_⟩;cases hi';exact (mmu j m).2 (R.sep i j b mi (mmu j m).1 si' q)
 ·rw [el] at S k;have hro:(e1.set i (.ro d))[i]?=some (.ro d):=Jc hi;obtain ⟨si,he,hv,hs⟩:=k.2 i _ hro;have hv:si=.ro d:=hv;subst hv;have hs:=(hs trivial).trans s;have hi':i < env'.length:=(IL.mp he).1;have na1:¬IA (e1.set i (.ro d)) σ a:=by rw [eIl];exact nIA
  have keepA:∀ o,H1 a=some o->H' a=some o:=fun o z=>S.d5 a o z na1;have fSub:∀ b,FF (fun b=>F0 b\/b=a) env' σ' b->(FF F0 e1 σ b\/H1 b=none):=fun b z=>by
   rcases z with (z | z) | ⟨j,c,e',q⟩
   ·exact .inl (.inl z)
   ·exact .inl (z▸fa)
   ·obtain ⟨b',q',_,w,_⟩:=S.own j c e';rw [q] at q';cases q';rcases w with w | w
    ·exact .inr w
    ·exact .inl (R.ia (iaSub b w))
  have pF:Pr (fun b=>FF F0 e1 σ b\/H1 b=none) H1 H':=(R.qe fun b o z n=>S.d5 b o z fun y=>n (iaSub b y)).G9 fun b z=>.inl z;have tA:Top K (FF (fun b=>F0 b\/b=a) env' σ') H' d a:=ta.bE.pr pF fSub keepA;have iaEnd:∀ b,IA env' σ' b->(IA e1 σ b\/H1 b=none):=fun b z=>by
   rcases S.iaI z with w | w
   ·exact .inr w
   ·exact .inl (iaSub b w)
  have roOld:∀ (j:Nat) (c:PyData),env'[j]?=some (.ro c)->i≠j->∃ b,σ'[j]?=some (some (.ref b))/\gn K (FF (fun b=>F0 b\/b=a) env' σ') (fun b=>IA env' σ' b\/b=a) H' c b:=fun j c e' n=>by
   have hj:j < e1.length:=by
    have:=(IL.mp e').1;rw [k.1,Jy] at this;exact this
   have e0:(e1.set i (.ro d))[j]?=some e1[j]:=by rw [IM n];exact II hj
   obtain ⟨s',h',v',w'⟩:=k.2 j _ e0;rw [e'] at h';cases h';have es:e1[j]=.ro c:=by
    cases hh:e1[j] with
    | ino _=>rw [hh] at v';obtain ⟨_,z⟩:=v';cases z
    | ro c'=>rw [hh] at v';have:Sl.ro c=.ro c':=v';rw [this]
    | un=>rw [hh] at v';exact absurd rfl (v'.2 c)
    | dat _=>rw [hh] at v';exact absurd rfl (v'.2 c)
    | own _=>rw [hh] at v';exact absurd rfl (v'.2 c)
   have er:e1[j]?=some (.ro c):=by rw [II hj,es]
   obtain ⟨b,q,r⟩:=R.ro j c er;rw [es] at w';refine ⟨b,(w' trivial).trans q,r.bE.pr pF fSub (fun b z=>?_) fun b o z n=>S.d5 b o z fun y=>n (.inl (iaSub b y))⟩;rcases z with z | z
   ·exact iaEnd b z
   ·exact .inl (z▸⟨i,mi,s⟩)
  have inoNe:∀ (j:Nat) (c:PyData),env'[j]?=some (.ino c)->σ'[j]?≠some (some (.ref a)):=fun j c e' q=>by
   have n:i≠j:=fun z=>by subst z;rw [he] at e';cases e'
   have hj:j < e1.length:=by
    have:=(IL.mp e').1;rw [k.1,Jy] at this;exact this
   have e0:(e1.set i (.ro d))[j]?=some e1[j]:=by rw [IM n];exact II hj
   obtain ⟨s',h',v',w'⟩:=k.2 j _ e0;rw [e'] at h';cases h';have es:∃ c',e1[j]=.ino c':=by
    cases hh:e1[j] with
    | ino c'=>exact ⟨c',rfl⟩
    | ro c'=>rw [hh] at v';cases v'
    | un=>rw [hh] at v';exact absurd rfl (v'.1 c)
    | dat _=>rw [hh] at v';exact absurd rfl (v'.1 c)
    | own _=>rw [hh] at v';exact absurd rfl (v'.1 c)
   obtain ⟨c',es⟩:=es;have er:e1[j]?=some (.ino c'):=by rw [II hj,es]
   rw [es] at w';rw [w' trivial] at q;exact n (R.sep i j a mi ⟨c',.inr er⟩ s q)
  have Sf:Rel K (fun b=>F0 b\/b=a) H1 (IA e1 σ) (env'.set i .un) σ' H':=by
   have:=S.forget i (some (.ref a));rw [set_same hs] at this;exact this.Fj iaSub
  have hu':(env'.set i .un)[i]?=some .un:=Jc hi';have eFe:FF (fun b=>F0 b\/b=a) (env'.set i .un) σ'=FF (fun b=>F0 b\/b=a) env' σ':=by
   funext b;apply propext;constructor
   ·rintro (h | ⟨j,c,e',q⟩)
    ·exact .inl h
    ·rcases get_set e' with ⟨_,z⟩ | ⟨n,e'⟩
     ·cases z
     ·exact .inr ⟨j,c,e',q⟩
   ·rintro (h | ⟨j,c,e',q⟩)
    ·exact .inl h
    ·have n:i≠j:=fun z=>by subst z;rw [he] at e';cases e'
     exact .inr ⟨j,c,by rw [IM n];exact e',q⟩
  have iaE:∀ b,IA (env'.set i .un) σ' b->IA env' σ' b:=by
   rintro b ⟨j,⟨c,m⟩,q⟩;refine ⟨j,⟨c,?_⟩,q⟩;rcases m with m | m
   ·rcases get_set m with ⟨_,z⟩ | ⟨n,m⟩
    ·cases z
    ·exact .inl m
   ·rcases get_set m with ⟨_,z⟩ | ⟨n,m⟩
    ·cases z
    ·exact .inr m
  have kEnd:∀ t:Sl,Evs (e1[i]) t->KpS e1 σ (env'.set i t) σ':=fun t ht=>by
   refine ⟨by rw [Jy,k.1,Jy],fun j s0 e0=>?_⟩;by_cases z:i=j
   ·subst z;rw [II hi] at e0;cases e0;exact ⟨t,Jc hi',ht,fun _=>hs.trans s.symm⟩
   ·obtain ⟨s',h',v',w'⟩:=k.2 j s0 (by rw [IM z];exact e0);exact ⟨s',by rw [IM z];exact h',v',w'⟩
  rcases e with e | e
  ·have eu:aM e1 (some i) env'=env'.set i (.own d):=by simp only [aM];rw [e,he]
   obtain ⟨a2,s2,nF,_⟩:=R.own i d e;rw [s] at s2;cases s2;have nFF:¬FF F0 (env'.set i .un) σ' a:=by
    rintro (h | ⟨j,c,e',q⟩)
    ·exact nF h
    ·obtain ⟨b',q',n',_⟩:=Sf.own j c e';rw [q] at q';cases q';exact n' (.inr rfl)
   have rv:fk K F0 H1 (IA e1 σ) (env'.set i .un) σ' H' (.frs d) (.ref a):=by
    refine ⟨a,rfl,Sf,?_,.inr ⟨i,mi,s⟩,nFF,fun j c e' q=>?_,fun j c e'=>?_⟩
    ·rw [<- gp,eFe];exact tA
    ·rcases get_set e' with ⟨_,z⟩ | ⟨n,e'⟩
     ·cases z
     ·exact inoNe j c e' q
    ·rcases get_set e' with ⟨_,z⟩ | ⟨n,e'⟩
     ·cases z
     ·obtain ⟨b,q,r⟩:=roOld j c e' n;refine ⟨b,q,?_⟩;rw [<- gp,eFe];exact r.pr Pr.refl (fun _ z=>z) (fun b z=>z.imp (iaE b) id) fun _ _ z _=>z
   have Rn:=Rel.G2 hu' rv;rw [Ki,set_same hs] at Rn;rw [eu];refine ⟨R.bN Rn,kEnd _ ?_,?_⟩
   ·have:e1[i]=.own d:=by have:=II hi;rw [e] at this;exact (J1 this).symm
    rw [this];exact ⟨fun _=>nofun,fun _=>nofun⟩
   ·rw [<- eFe,gp];funext b;apply propext;constructor
    ·rintro (h | ⟨j,c,e',q⟩)
     ·exact .inl (.inl h)
     ·rcases get_set e' with ⟨z,_⟩ | ⟨n,e'⟩
      ·subst z;rw [hs] at q;cases q;exact .inr rfl
      ·exact .inl (.inr ⟨j,c,by rw [IM n];exact e',q⟩)
    ·rintro ((h | ⟨j,c,e',q⟩) | rfl)
     ·exact .inl h
     ·rcases get_set e' with ⟨_,z⟩ | ⟨n,e'⟩
      ·cases z
      ·exact .inr ⟨j,c,by rw [IM n];exact e',q⟩
     ·exact .inr ⟨i,d,Jc hi',hs⟩
  ·have eu:aM e1 (some i) env'=env'.set i (.ino d):=by simp only [aM];rw [e,he]
   obtain ⟨a2,s2,f2,i2,_⟩:=R.ino i d e;rw [s] at s2;cases s2;have Sf2:Rel K F0 H1 (IA e1 σ) (env'.set i .un) σ' H':=Sf.eqF fun b=>⟨fun z=>z.elim id fun z=>z▸f2,.inl⟩;have eF0:FF F0 (env'.set i .un) σ'=FF (fun b=>F0 b\/b=a) env' σ':=by
    rw [<- eFe];have:(fun b=>F0 b\/b=a)=F0:=funext fun b=>propext ⟨fun z=>z.elim id fun z=>z▸f2,.inl⟩;rw [this]
   have Rn:=Sf2.Ic (d:=d) hu' hs (by rw [eF0];exact tA) f2 ⟨i,mi,s⟩ (fun j m q=>?_) (fun j c e'=>?_)
   ·rw [Ki] at Rn;rw [eu];refine ⟨R.bN Rn,kEnd _ ?_,?_⟩
    ·have:e1[i]=.ino d:=by have:=II hi;rw [e] at this;exact (J1 this).symm
     rw [this];exact ⟨d,rfl⟩
    ·rw [<- eF0];have:=kA (F0:=F0) (σ:=σ') (s:=.ino d) (x:=some (.ref a)) hu' (fun _=>nofun)
     rwa [set_same hs,Ki] at this
   ·obtain ⟨c,m | m⟩:=m
    ·obtain ⟨b',q',n',_⟩:=Sf.own j c m;rw [q] at q';cases q';exact n' (.inr rfl)
    ·rcases get_set m with ⟨_,z⟩ | ⟨n,m⟩
     ·cases z
     ·exact inoNe j c m q
   ·rcases get_set e' with ⟨_,z⟩ | ⟨n,e'⟩
    ·cases z
    ·obtain ⟨b,q,r⟩:=roOld j c e' n;refine ⟨b,q,?_⟩;rw [eF0];exact r.pr Pr.refl (fun _ z=>z) (fun b z=>z.imp (iaE b) id) fun _ _ z _=>z
theorem Lk.of (R:Rel K F0 H₀ I e1 σ H1) (lock:Option Nat):∃ F1,Lk K F0 H₀ I e1 σ H1 lock F1/\(lkd e1 lock=false->F1=F0/\cu e1 lock=e1/\∀ env',aM e1 lock env'=env'):=by
 cases lock with
 | none=>exact ⟨F0,Lk.uC R rfl (fun _=>rfl) (fun i z=>by cases z),fun _=>⟨rfl,rfl,fun _=>rfl⟩⟩
 | some i =>
  cases e:e1[i]? with
  | none =>
   have h1:cu e1 (some i)=e1:=by simp only [cu];rw [e]
   have h2:∀ env',aM e1 (some i) env'=env':=fun env'=>by simp only [aM];rw [e]
   exact ⟨F0,Lk.uC R h1 h2 (fun j z m=>by cases z;obtain ⟨d,m | m⟩:=m <;> (rw [e] at m;cases m)),fun _=>⟨rfl,h1,h2⟩⟩
  | some s =>
   cases s with
   | own d =>
    obtain ⟨a,q,_⟩:=R.own i d e;exact ⟨_,Lk.Dk R (.inl e) q,fun z=>by simp only [lkd] at z;rw [e] at z;cases z⟩
   | ino d =>
    obtain ⟨a,q,_⟩:=R.ino i d e;exact ⟨_,Lk.Dk R (.inr e) q,fun z=>by simp only [lkd] at z;rw [e] at z;cases z⟩
   | un =>
    have h1:cu e1 (some i)=e1:=by simp only [cu];rw [e]
    have h2:∀ env',aM e1 (some i) env'=env':=fun env'=>by simp only [aM];rw [e]
    exact ⟨F0,Lk.uC R h1 h2 (fun j z m=>by cases z;obtain ⟨d,m | m⟩:=m <;> (rw [e] at m;cases m)),fun _=>⟨rfl,h1,h2⟩⟩
   | dat d =>
    have h1:cu e1 (some i)=e1:=by simp only [cu];rw [e]
    have h2:∀ env',aM e1 (some i) env'=env':=fun env'=>by simp only [aM];rw [e]
    exact ⟨F0,Lk.uC R h1 h2 (fun j z m=>by cases z;obtain ⟨d,m | m⟩:=m <;> (rw [e] at m;cases m)),fun _=>⟨rfl,h1,h2⟩⟩
   | ro d =>
    have h1:cu e1 (some i)=e1:=by simp only [cu];rw [e]
    have h2:∀ env',aM e1 (some i) env'=env':=fun env'=>by simp only [aM];rw [e]
    exact ⟨F0,Lk.uC R h1 h2 (fun j z m=>by cases z;obtain ⟨d,m | m⟩:=m <;> (rw [e] at m;cases m)),fun _=>⟨rfl,h1,h2⟩⟩
theorem rR {b:PyData->En->Option Out} {ds:List PyData} {out:Out} {J:It} {F1 I1:Addr->Prop} {el:En} {g:TG} {tb:TS} {D:Ends} (R:Rel K F1 H1 I1 el σ H1) (hI:I1=IA el σ) (hit:wV K (FF F1 el σ) I1 H1 J ds) (h:forL b ds el=some out)
  (turn:∀ d o env' σ' H' x,b d env'=some o->Rel K F1 H1 I1 env' σ' H'->KpS el σ env' σ'->Dm K (FF F1 env' σ') H' d x->∀ D':Ends,mG K F1 H1 I1 env' σ' D' o->g x σ' H' fun σ2 H2=>tb D' σ2 H2)
  (q:mG K F1 H1 I1 el σ D out) :
  ∃ W:Nat->Nat->St->Hp->Prop,(∃ m,W 0 m σ H1)/\∀ i m σ H,W i m σ H ->
   (J.stop i H/\D.nx σ H)\/(J.go i H/\∃ N:St->Hp->Prop,(∀ σ' H',N σ' H'->∃ m',m' < m/\W (i+1) m' σ' H')/\∀ x H',J.yld i H x H'->g x σ H' fun σ2 H2=>tb { D with nx:=N,ct:=N,bk:=D.nx } σ2 H2):=by
 subst hI;obtain ⟨hvl,hturn⟩:=hit;refine ⟨fun i m σ' H'=>m=ds.length - i/\i<=ds.length/\∃ env',forL b (ds.drop i) env'=some out/\Rel K F1 H1 (IA el σ) env' σ' H'/\KpS el σ env' σ',⟨ds.length,rfl,JZ _,el,h,R,KpS.refl _ _⟩,?_⟩;rintro i m σ' H' ⟨rfl,hi,env',hf,R',k'⟩;have hkept:∀ b o,H1 b=some o->¬IA el σ b->H' b=some o:=R'.d5;by_cases hlt:i < ds.length
 ·right;obtain ⟨go,yld⟩:=(hturn H' hkept i).1 (by omega);refine ⟨go,fun σ3 H3=>(ds.length - (i+1))=ds.length - (i+1)/\i+1<=ds.length/\∃ env',forL b (ds.drop (i+1)) env'=some out/\Rel K F1 H1 (IA el σ) env' σ3 H3/\KpS el σ env' σ3,fun σ3 H3 z=>⟨ds.length - (i+1),by omega,z⟩,fun x H'' hx=>?_⟩;obtain ⟨d,hd,hy9⟩:=yld x H'' hx;have fSub:∀ b,FF F1 env' σ' b->(FF F1 el σ b\/H1 b=none):=fun b z=>by
   rcases z with z | ⟨j,c,e',s'⟩
   ·exact .inl (.inl z)
   ·obtain ⟨b',q',_,w,_⟩:=R'.own j c e';rw [s'] at q';cases q';exact w.elim .inr fun w=>.inl (R.ia w)
  obtain ⟨sm,hdx'⟩:=hy9.dm (F2:=FF F1 env' σ') fun d v h=>h.bE.pr ((R.qe hkept).G9 fun b z=>.inl z) fSub;have R':=R'.same sm;have ed:ds.drop i=d :: ds.drop (i+1):=by
   rw [J8 hlt];obtain ⟨_,z⟩:=IL.mp hd;rw [z]
  rw [ed] at hf;unfold forL at hf;split at hf
  ·rename_i e hb;exact turn d _ env' σ' H'' x hb R' k' hdx' _ fun σ3 H3 R3 k3=>⟨rfl,by omega,e,hf,R3,k'.trans k3⟩
  ·rename_i e hb;exact turn d _ env' σ' H'' x hb R' k' hdx' _ fun σ3 H3 R3 k3=>⟨rfl,by omega,e,hf,R3,k'.trans k3⟩
  ·rename_i e hb;cases hf;exact turn d _ env' σ' H'' x hb R' k' hdx' _ fun σ3 H3 R3 k3=>q σ3 H3 R3 (k'.trans k3)
  ·rename_i r e hb;cases hf;exact turn d _ env' σ' H'' x hb R' k' hdx' _ fun v σ3 H3 R3 k3 r3=>q v σ3 H3 R3 (k'.trans k3) r3
  ·cases hf
 ·left;have e:i=ds.length:=by omega
  subst e;rw [List.drop_length] at hf;unfold forL at hf;cases hf;exact ⟨(hturn H' hkept _).2 (by omega),q σ' H' R' k'⟩
theorem fk.unl {rv:RV} {v:V} {F1:Addr->Prop} {e2:En} (h:fk K F1 H₀ I env σ H rv v) (hn:∀ d,rv≠.frs d) (eF:FF F0 e2 σ=FF F1 env σ) {H₁:Hp} {I₁:Addr->Prop}:fk K F0 H₁ I₁ e2 σ H rv v:=by
 cases rv with
 | dat d=>show Dm K _ H d v;rw [eF];exact h
 | bor i=>exact h
 | frs d=>exact absurd rfl (hn d)
theorem fk.Fi {rv:RV} {v:V} (h:fk K F0 H₀ I env σ H rv v):fk K F0 H₀ I env σ H (rv.soft true) v:=by
 cases rv with
 | dat d=>exact h
 | bor i=>exact h
 | frs d=>exact h.av
theorem fk.bN {rv:RV} {v:V} (R:Rel K F0 H₀ I env σ H) (h:fk K F0 H (IA env σ) env' σ' H' rv v):fk K F0 H₀ I env' σ' H' rv v:=by
 cases rv with
 | dat d=>exact h
 | bor i=>exact h
 | frs d =>
  obtain ⟨a,ea,S,t,w,nF,hi,hr⟩:=h;have S0:=R.bN (S.less hi);refine ⟨a,ea,⟨S.len,S.dat,fun i c e=>?_,fun i c e=>?_,S.ro,S.sep,S.dom,S0.d5⟩,t,R.oi w,nF,hi,hr⟩
  ·obtain ⟨b,s,n,w',t'⟩:=S.own i c e;exact ⟨b,s,n,R.oi w',t'⟩
  ·obtain ⟨b,s,n,w',t'⟩:=S.ino i c e;obtain ⟨b2,s2,_,i2,_⟩:=S0.ino i c e;rw [s] at s2;cases s2;exact ⟨b,s,n,i2,t'⟩
theorem Lk.out {lock:Option Nat} {F1:Addr->Prop} {D:Ends} {out:Out} (R1:Rel K F0 H₀ I e1 σ H1) (L:Lk K F0 H₀ I e1 σ H1 lock F1) (hno:lkd e1 lock=false->F1=F0/\cu e1 lock=e1/\∀ env',aM e1 lock env'=env')
  (q:mG K F0 H₀ I e1 σ D (out.map (lkd e1 lock) (aM e1 lock))):mG K F1 H1 (IA (cu e1 lock) σ) (cu e1 lock) σ D out:=by
 cases out with
 | nx e=>exact fun σ' H' R' k'=>let ⟨A,B,_⟩:=L.un e σ' H' R' k';q σ' H' A B
 | bk e=>exact fun σ' H' R' k'=>let ⟨A,B,_⟩:=L.un e σ' H' R' k';q σ' H' A B
 | ct e=>exact fun σ' H' R' k'=>let ⟨A,B,_⟩:=L.un e σ' H' R' k';q σ' H' A B
 | rt rv e =>
  intro v σ' H' R' k' r;obtain ⟨A,B,C⟩:=L.un e σ' H' R' k';refine q v σ' H' A B ?_;cases hl:lkd e1 lock with
  | true=>exact r.Fi.unl (fun d z=>by cases rv <;> cases z) C
  | false =>
   obtain ⟨rfl,h1,h2⟩:=hno hl;rw [h1] at r;rw [h2];have:rv.soft false=rv:=by cases rv <;> rfl
   rw [this];exact r.bN R1
theorem D0 {i:Nat} {it:XI} {b:XS} (ii:SI K ga gd it) (ib:SS K ga gd b):SS K ga gd (.fr i it b):=by
 intro env out h F0 H₀ I σ H D R q;simp only [dS] at h;split at h
 ·rename_i ds lock e1 h1;cases ho:forL (ka i (dS gd b)) ds (cu e1 lock) with
  | none=>rw [ho] at h;cases h
  | some o =>
   rw [ho] at h;cases h;refine ii _ _ _ _ h1 F0 H₀ I σ H _ R fun J H1 R1 k1 _ hit=>?_;obtain ⟨F1,L,hno⟩:=Lk.of R1 lock;have Rb:=L.rel.rebase;refine rR Rb rfl ?_ ho ?_ (L.out R1 hno (q.from k1.s))
   ·rw [L.ff];obtain ⟨a2,a3⟩:=hit;exact ⟨a2,fun H' hk=>a3 H' fun b o e n=>hk b o e fun z=>n (L.ia b z)⟩
   ·intro d o env' σ' H' x hb R' k' hd D' hD;unfold ka at hb;split at hb
    ·rename_i hf;obtain ⟨R2,k2⟩:=R'.FR hf hd;exact ib _ _ hb _ _ _ _ H' D' R2 (hD.from k2)
    ·cases hb
 ·cases h
theorem Dx {is:List Nat} {it:XI} {b:XS} (ii:SI K ga gd it) (ib:SS K ga gd b):SS K ga gd (.frT is it b):=by
 intro env out h F0 H₀ I σ H D R q;simp only [dS] at h;split at h
 ·rename_i ds lock e1 h1
  ·obtain ⟨o,ho,e0⟩:=Jp.mp h;subst e0;refine ii _ _ _ _ h1 F0 H₀ I σ H _ R fun J H1 R1 k1 _ hit=>?_;obtain ⟨F1,L,hno⟩:=Lk.of R1 lock;have Rb:=L.rel.rebase;refine rR Rb rfl ?_ ho ?_ (L.out R1 hno (q.from k1.s))
   ·rw [L.ff];obtain ⟨a2,a3⟩:=hit;exact ⟨a2,fun H' hk=>a3 H' fun b o e n=>hk b o e fun z=>n (L.ia b z)⟩
   ·intro d o env' σ' H' x hb R' k' hd D' hD;unfold jq at hb;split at hb
    ·rename_i xs;split at hb
     ·rename_i e2 hset;obtain ⟨a,vs,rfl,l,z,r⟩:=hd;have hlen:∀ {is:List Nat} {ds:List PyData} {e e':En},fU e is ds=some e'->is.length=ds.length:=by
       intro is;induction is with
       | nil=>intro ds e e' h;cases ds with
        | nil=>rfl
        | cons _ _=>cases h
       | cons i is ih=>intro ds e e' h;cases ds with
        | nil=>cases h
        | cons d ds =>
         unfold fU at h;split at h
         ·rw [Jk,Jk,ih h]
         ·cases h
      exact ⟨a,vs,rfl,l,by rw [r.len,hlen hset],nZ hset R' r fun σ2 R2 k2=>ib _ _ hb _ _ _ _ H' D' R2 (hD.from k2)⟩
     ·cases hb
    ·cases hb
 ·cases h
theorem sS (hg:∀ g d,gd[g]?=some d->∀ F H,Dm K F H d (ga g)):∀ s:XS,SS K ga gd s
 | .skip=>fun env out h F0 H₀ I σ H D R q=>by cases h;exact q σ H R (KpS.refl _ _)
 | .seq a b=>AG (sS hg a) (sS hg b)
 | .fO i e=>yn (sE hg e) | .ve i e=>zP (sE hg e) | .C5 is e=>yu (sE hg e) | .drop e=>zi (sE hg e) | .ret e=>BG (sE hg e)
 | .DH=>fun env out h F0 H₀ I σ H D R q=>by cases h;exact q .non σ H R (KpS.refl _ _) rfl
 | .ifs c a b=>Ci (sT hg c) (sS hg a) (sS hg b)
 | .fr i it b=>D0 (sI hg it) (sS hg b) | .frT is it b=>Dx (sI hg it) (sS hg b) | .wh n c b=>F6 (sT hg c) (sS hg b)
 | .brk=>fun env out h F0 H₀ I σ H D R q=>by cases h;exact q σ H R (KpS.refl _ _)
 | .cnt=>fun env out h F0 H₀ I σ H D R q=>by cases h;exact q σ H R (KpS.refl _ _)
 | .nev=>fun env out h F0 H₀ I σ H D R q=>by cases h
 | .sto m i k e=>An (sE hg k) (sE hg e)
end
end L2
end
section
namespace L2
open PySem
section
variable {K:Fg} {F F' G I I' F0:Addr->Prop} {H H' H₀ H1:Hp} {env env' e1:En} {σ σ':St} {ga:Nat->V} {gd:List PyData}
theorem dc:∀ {ms:List PM} {ds:List PyData} {n:Nat},ds.length=ms.length->ms.length<=n->(ax ms ds n).length=n
 | [],[],n,_,_=>by simp [ax]
 | [],_ :: _,n,h,_=>by cases h
 | _ :: _,[],n,h,_=>by cases h
 | m :: ms,d :: ds,n,h,hn=>by
  have ih:=dc (ms:=ms) (ds:=ds) (n:=n - 1) (by simpa using h) (by simp at hn;omega);simp at hn;cases m <;> (simp only [ax,Jk,ih];omega)
theorem cC.len:∀ {ms:List PM} {ds:List PyData} {vs:List V} {is:List Addr},cC K G I H ms ds vs is->ds.length=ms.length/\vs.length=ms.length
 | [],[],[],_,_=>⟨rfl,rfl⟩
 | [],[],_ :: _,_,h=>by exact absurd h id
 | [],_ :: _,_,_,h=>by exact absurd h id
 | m :: ms,[],_,_,h=>by cases m <;> exact absurd h id
 | m :: ms,d :: ds,[],_,h=>by cases m <;> exact absurd h id
 | .dat :: ms,d :: ds,v :: vs,is,h=>by obtain ⟨a,b⟩:=cC.len h.2;exact ⟨by simp [a],by simp [b]⟩
 | .bor :: ms,d :: ds,v :: vs,is,h=>by obtain ⟨a,b⟩:=cC.len h.2;exact ⟨by simp [a],by simp [b]⟩
 | .ino :: ms,d :: ds,v :: vs,is,h=>by obtain ⟨_,_,_,_,_,_,_,h⟩:=h;obtain ⟨a,b⟩:=cC.len h;exact ⟨by simp [a],by simp [b]⟩
def At (K:Fg) (G I:Addr->Prop) (H:Hp) (is:List Addr) (s:Sl) (x:Option V):Prop:=match s with
 | .un=>True
 | .dat d=>∃ v,x=some v/\Dm K G H d v
 | .ino d=>∃ a,x=some (.ref a)/\a∈is/\G a/\Top K G H d a
 | .ro d=>∃ a,x=some (.ref a)/\gn K G I H d a
 | .own _=>False
theorem At.more {is is':List Addr} {s:Sl} {x:Option V} (h:At K G I H is s x) (q:∀ a∈is,a∈is'):At K G I H is' s x:=by
 cases s with
 | ino d=>obtain ⟨a,e,m,r⟩:=h;exact ⟨a,e,q a m,r⟩
 | _=>exact h
theorem cG:∀ {ms:List PM} {ds:List PyData} {vs:List V} {is:List Addr} {n:Nat} {tl:St},cC K G I H ms ds vs is->∀ {i:Nat} {s:Sl},(ax ms ds n)[i]?=some s->∀ {x:Option V},(vs.map some++tl)[i]?=some x->At K G I H is s x
 | [],[],[],is,n,tl,h,i,s,e,x,_=>by
  simp only [ax,List.getElem?_replicate] at e;split at e
  ·cases e;trivial
  ·cases e
 | [],[],_ :: _,_,_,_,h,_,_,_,_,_=>by exact absurd h id
 | [],_ :: _,_,_,_,_,h,_,_,_,_,_=>by exact absurd h id
 | m :: ms,[],_,_,_,_,h,_,_,_,_,_=>by cases m <;> exact absurd h id
 | m :: ms,d :: ds,[],_,_,_,h,_,_,_,_,_=>by cases m <;> exact absurd h id
 | .dat :: ms,d :: ds,v :: vs,is,n,tl,h,0,s,e,x,ex=>by
  simp [ax] at e ex;subst e ex;exact ⟨v,rfl,h.1⟩
 | .dat :: ms,d :: ds,v :: vs,is,n,tl,h,i+1,s,e,x,ex=>by
  simp [ax] at e;exact cG h.2 e (by simpa using ex)
 | .bor :: ms,d :: ds,v :: vs,is,n,tl,h,0,s,e,x,ex=>by
  simp [ax] at e ex;subst e ex;have h1:zx K G I H d v:=h.1;cases d <;> first | exact h1 | exact ⟨v,rfl,h1⟩ | (obtain ⟨a,rfl,r⟩:=h1;exact ⟨a,rfl,r⟩)
 | .bor :: ms,d :: ds,v :: vs,is,n,tl,h,i+1,s,e,x,ex=>by
  simp [ax] at e;exact cG h.2 e (by simpa using ex)
 | .ino :: ms,d :: ds,v :: vs,is,n,tl,h,0,s,e,x,ex=>by
  simp [ax] at e ex;subst e ex;obtain ⟨a,r,rfl,rfl,g,t,_,_⟩:=h;exact ⟨a,rfl,IU,g,t⟩
 | .ino :: ms,d :: ds,v :: vs,is,n,tl,h,i+1,s,e,x,ex=>by
  simp [ax] at e;obtain ⟨a,r,rfl,rfl,g,t,_,h⟩:=h;exact (cG h e (by simpa using ex)).more fun b hb=>Jb _ hb
theorem kB:∀ {ms:List PM} {ds:List PyData} {vs:List V} {is:List Addr} {n:Nat} {tl:St},cC K G I H ms ds vs is->∀ {i j:Nat} {c c':PyData} {a:Addr},(ax ms ds n)[i]?=some (.ino c)->(ax ms ds n)[j]?=some (.ino c') ->
  (vs.map some++tl)[i]?=some (some (.ref a))->(vs.map some++tl)[j]?=some (some (.ref a))->i=j
 | [],[],[],is,n,tl,h,i,j,c,c',a,e,_,_,_=>by
  simp only [ax,List.getElem?_replicate] at e;split at e <;> cases e
 | [],[],_ :: _,_,_,_,h,_,_,_,_,_,_,_,_,_=>by exact absurd h id
 | [],_ :: _,_,_,_,_,h,_,_,_,_,_,_,_,_,_=>by exact absurd h id
 | m :: ms,[],_,_,_,_,h,_,_,_,_,_,_,_,_,_=>by cases m <;> exact absurd h id
 | m :: ms,d :: ds,[],_,_,_,h,_,_,_,_,_,_,_,_,_=>by cases m <;> exact absurd h id
 | m :: ms,d :: ds,v :: vs,is,n,tl,h,0,0,c,c',a,e,e',s,s'=>rfl
 | m :: ms,d :: ds,v :: vs,is,n,tl,h,i+1,j+1,c,c',a,e,e',s,s'=>by
  have hr:∃ r,cC K G I H ms ds vs r:=by
   cases m with
   | dat=>exact ⟨is,h.2⟩
   | bor=>exact ⟨is,h.2⟩
   | ino=>obtain ⟨_,r,_,_,_,_,_,h⟩:=h;exact ⟨r,h⟩
  obtain ⟨r,hr⟩:=hr;have:i=j:=kB (n:=n - 1) (tl:=tl) hr (by cases m <;> simpa [ax] using e) (by cases m <;> simpa [ax] using e') (by simpa using s) (by simpa using s');rw [this]
 | m :: ms,d :: ds,v :: vs,is,n,tl,h,0,j+1,c,c',a,e,e',s,s'=>by
  cases m with
  | dat=>simp [ax] at e
  | bor=>cases d <;> simp [ax,zH] at e
  | ino =>
   obtain ⟨b,r,rfl,rfl,g,t,nr,h⟩:=h;simp [ax] at e' s;subst s;obtain ⟨a',ea,m',_⟩:=cG (tl:=tl) h e' (by simpa using s');cases ea;exact absurd m' nr
 | m :: ms,d :: ds,v :: vs,is,n,tl,h,i+1,0,c,c',a,e,e',s,s'=>by
  cases m with
  | dat=>simp [ax] at e'
  | bor=>cases d <;> simp [ax,zH] at e'
  | ino =>
   obtain ⟨b,r,rfl,rfl,g,t,nr,h⟩:=h;simp [ax] at e s';subst s';obtain ⟨a',ea,m',_⟩:=cG (tl:=tl) h e (by simpa using s);cases ea;exact absurd m' nr
theorem gP {G':Addr->Prop}:∀ {ms:List PM} {ds:List PyData} {vs:List V} {is:List Addr} {n:Nat} {tl:St} {env':En} {σ':St} {outs:List PyData},cC K G I H ms ds vs is->ms.length<=env'.length ->
  (∀ (i:Nat) (c:PyData),(ax ms ds n)[i]?=some (.ino c)->∃ c',env'[i]?=some (.ino c')/\σ'[i]?=(vs.map some++tl)[i]?)->(∀ (i:Nat) (c:PyData) (a:Addr),env'[i]?=some (.ino c)->σ'[i]?=some (some (.ref a))->Top K G' H' c a) ->
  i8 ms env'=some outs->je K G' H' outs is
 | [],[],[],is,n,tl,env',σ',outs,h,_,_,_,e=>by
  rw [show is=[] from h];cases env' <;> (simp only [i8] at e;cases e;trivial)
 | [],[],_ :: _,_,_,_,_,_,_,h,_,_,_,_=>by exact absurd h id
 | [],_ :: _,_,_,_,_,_,_,_,h,_,_,_,_=>by exact absurd h id
 | m :: ms,[],_,_,_,_,_,_,_,h,_,_,_,_=>by cases m <;> exact absurd h id
 | m :: ms,d :: ds,[],_,_,_,_,_,_,h,_,_,_,_=>by cases m <;> exact absurd h id
 | m :: ms,d :: ds,v :: vs,is,n,tl,[],σ',outs,h,hl,h1,h2,e=>by simp at hl
 | m :: ms,d :: ds,v :: vs,is,n,tl,s :: es,σ',outs,h,hl,h1,h2,e=>by
  have hl':ms.length<=es.length:=by simpa using hl
  have t1:∀ (i:Nat) (c:PyData),(ax ms ds (n - 1))[i]?=some (.ino c)->∃ c',es[i]?=some (.ino c')/\σ'.tail[i]?=(vs.map some++tl)[i]?:=fun i c z=>by
   obtain ⟨c',e',q⟩:=h1 (i+1) c (by cases m <;> simpa [ax] using z);exact ⟨c',by simpa using e',by simpa using q⟩
  have t2:∀ (i:Nat) (c:PyData) (a:Addr),es[i]?=some (.ino c)->σ'.tail[i]?=some (some (.ref a))->Top K G' H' c a:=fun i c a z q=>h2 (i+1) c a (by simpa using z) (by simpa using q);cases m with
  | dat=>exact gP h.2 hl' t1 t2 (by simpa [i8] using e)
  | bor=>exact gP h.2 hl' t1 t2 (by simpa [i8] using e)
  | ino =>
   obtain ⟨b,r,rfl,rfl,g,t,nr,h⟩:=h;obtain ⟨c',e',q⟩:=h1 0 d (by simp [ax]);simp at e' q;subst e';simp only [i8] at e;split at e
   ·rename_i os ho;cases e;exact ⟨h2 0 c' b (by simp) (by simpa using q),gP h hl' t1 t2 ho⟩
   ·cases e
theorem aS (hg:∀ g d,gd[g]?=some d->∀ F H,Dm K F H d (ga g)) {ms:List PM} {N:List Str} {b:XS} {vs:List V} {H:Hp} {Q:VK} {E:XK} (h:fo (gc gd ms N.length b) K vs H Q E) (hn:ms.length<=N.length) :
  rS K ga b { nx:=fun _ H'=>Q .non H',rt:=Q } (start N vs) H:=by
 obtain ⟨G,ds,is,pr,outs,hF,ha,hd,post⟩:=h;have ha:cC K G (·∈is) H ms ds vs is:=ha;obtain ⟨hl1,hl2⟩:=ha.len;have hstart:start N vs=vs.map some++List.replicate (N.length - vs.length) none:=rfl;have no:noOwn (ax ms ds N.length):=fun i d e=>by
  have hi:i < (ax ms ds N.length).length:=(IL.mp e).1;rw [dc hl1 hn] at hi;have hx:(vs.map some++List.replicate (N.length - vs.length) none)[i]?=some ((vs.map some++List.replicate (N.length - vs.length) none)[i]'(by rw [IJ,IK,Lo];omega)):=II _;exact (cG ha e hx:False)
 have at':∀ {i:Nat} {s:Sl},(ax ms ds N.length)[i]?=some s->∃ x,(start N vs)[i]?=some x/\At K G (·∈is) H is s x:=fun {i s} e=>by
  have hi:i < (ax ms ds N.length).length:=(IL.mp e).1;rw [dc hl1 hn] at hi;have hx:(start N vs)[i]?=some ((start N vs)[i]'(by rw [hstart,IJ,IK,Lo];omega)):=II _;exact ⟨_,hx,cG ha e hx⟩
 have eF:FF G (ax ms ds N.length) (start N vs)=G:=dO no;have muI:∀ i,mu (ax ms ds N.length) i->∃ c,(ax ms ds N.length)[i]?=some (.ino c):=fun i ⟨c,m⟩=>m.elim (fun z=>absurd z (no i c)) fun z=>⟨c,z⟩;have R:Rel K G H (·∈is) (ax ms ds N.length) (start N vs) H:=by
  refine ⟨by rw [dc hl1 hn,hstart,IJ,IK,Lo];omega,fun i d e=>?_,fun i d e=>absurd e (no i d),fun i d e=>?_,fun i d e=>?_,fun i j a h1 h2 h3 h4=>?_,hd,fun _ _ h _=>h⟩
  ·rw [eF];obtain ⟨x,hx,v,rfl,r⟩:=at' e;exact ⟨v,hx,r⟩
  ·rw [eF];obtain ⟨x,hx,a,rfl,m,g,t⟩:=at' e;exact ⟨a,hx,g,m,t⟩
  ·rw [eF];obtain ⟨x,hx,a,rfl,r⟩:=at' e;refine ⟨a,hx,r.pr Pr.refl (fun _ z=>z) (fun b hb=>?_) fun _ _ z _=>z⟩;obtain ⟨j,m,s⟩:=hb;obtain ⟨c,m⟩:=muI j m;obtain ⟨x,hx,a,rfl,m,g,t⟩:=at' m;rw [s] at hx;cases hx;exact m
  ·obtain ⟨c,m1⟩:=muI i h1;obtain ⟨c',m2⟩:=muI j h2;exact kB ha m1 m2 h3 h4
 simp only [gc] at hF;rw [IX hl1] at hF
 ·have inoK:∀ {env':En} {σ':St},KpS (ax ms ds N.length) (start N vs) env' σ'->∀ (i:Nat) (c:PyData),(ax ms ds N.length)[i]?=some (.ino c)->∃ c',env'[i]?=some (.ino c')/\σ'[i]?=(vs.map some++List.replicate (N.length - vs.length) none)[i]?:=fun {env' σ'} k i c e=>by
   obtain ⟨s',e',v,w⟩:=k.2 i _ e;obtain ⟨c',rfl⟩:=v;exact ⟨c',e',w trivial⟩
  have hlE:∀ {env':En} {σ':St},KpS (ax ms ds N.length) (start N vs) env' σ'->ms.length<=env'.length:=fun {env' σ'} k=>by rw [k.1,dc hl1 hn];exact hn
  split at hF
  ·rename_i rv env' hS;split at hF
   ·rename_i pr' outs' hpr houts;cases hF;refine sS hg b _ _ hS G H (·∈is) _ H _ R fun v σ' H' R' k' r'=>?_;have mono:∀ b,G b->FF G env' σ' b:=fun b z=>.inl z;cases rv with
    | bor i=>cases hpr
    | dat d =>
     cases hpr
     exact post v H' (fun b o e n=>R'.d5 b o e n) ⟨Dm.mono mono r',gP ha (hlE k') (inoK k') (fun i c a e s=>by
      obtain ⟨a',s',_,_,t⟩:=R'.ino i c e;rw [s] at s';cases s'
      exact t.pr Pr.refl mono fun _ z=>z) houts⟩
    | frs d =>
     cases hpr;obtain ⟨a,rfl,Ra,t,w,nF,hino,_⟩:=r';have mono':∀ b,(G b\/b=a)->FF (fun b=>G b\/b=a) env' σ' b:=fun b z=>.inl z
     refine post _ H' (fun b o e n=>R'.d5 b o e n) ⟨a,rfl,?_,t.pr Pr.refl (fun b z=>z.imp (mono b) id) (fun _ z=>z),gP ha (hlE k') (inoK k') (fun i c a' e s=>by
      obtain ⟨a2,s',_,_,t'⟩:=Ra.ino i c e;rw [s] at s';cases s'
      exact t'.pr Pr.refl mono' fun _ z=>z) houts⟩
     rcases w with w | w
     ·exact w
     ·-- it would be one that was handed in to be changed
      exfalso;have key:∀ {ms:List PM} {ds:List PyData} {vs:List V} {is:List Addr} {I:Addr->Prop} {n:Nat} {tl:St},cC K G I H ms ds vs is->a∈is->∃ (i:Nat) (c:PyData),(ax ms ds n)[i]?=some (.ino c)/\(vs.map some++tl)[i]?=some (some (.ref a)):=by
       intro ms;induction ms with
       | nil =>
        intro ds vs is I n tl h m;cases ds with
        | cons _ _=>exact absurd h id
        | nil=>cases vs with
         | cons _ _=>exact absurd h id
         | nil=>rw [show is=[] from h] at m;cases m
       | cons p ms ih =>
        intro ds vs is I n tl h m;cases ds with
        | nil=>cases p <;> exact absurd h id
        | cons d ds =>
         cases vs with
         | nil=>cases p <;> exact absurd h id
         | cons v vs =>
          cases p with
          | dat=>obtain ⟨i,c,e,s⟩:=ih (n:=n - 1) (tl:=tl) h.2 m;exact ⟨i+1,c,by simpa [ax] using e,by simpa using s⟩
          | bor=>obtain ⟨i,c,e,s⟩:=ih (n:=n - 1) (tl:=tl) h.2 m;exact ⟨i+1,c,by simpa [ax] using e,by simpa using s⟩
          | ino =>
           obtain ⟨b,r,rfl,rfl,g,t,nr,h⟩:=h;rcases Jo.mp m with rfl | m
           ·exact ⟨0,d,by simp [ax],by simp⟩
           ·obtain ⟨i,c,e,s⟩:=ih (n:=n - 1) (tl:=tl) h m;exact ⟨i+1,c,by simpa [ax] using e,by simpa using s⟩
      obtain ⟨i,c,e,s⟩:=key (n:=N.length) (tl:=List.replicate (N.length - vs.length) none) ha w;obtain ⟨c',e',s'⟩:=inoK k' i c e;exact hino i c' e' (s'.trans s)
   ·cases hF
  ·rename_i env' hS;split at hF
   ·rename_i outs' houts;cases hF;refine sS hg b _ _ hS G H (·∈is) _ H _ R fun σ' H' R' k'=>?_;have mono:∀ b,G b->FF G env' σ' b:=fun b z=>.inl z
    exact post .non H' (fun b o e n=>R'.d5 b o e n) ⟨rfl,gP ha (hlE k') (inoK k') (fun i c a e s=>by
      obtain ⟨a',s',_,_,t⟩:=R'.ino i c e;rw [s] at s';cases s'
      exact t.pr Pr.refl mono fun _ z=>z) houts⟩
   ·cases hF
  ·cases hF
theorem aA {f:Fn} {vs:List V} {H:Hp} {Q:VK} {E:XK} (h:fo f K vs H Q E):vs.length=f.ms.length:=by
 obtain ⟨G,ds,is,pr,outs,_,ha,_⟩:=h;exact ha.len.2
end
end L2
end
section
namespace L2
open PySem PySem.Spec PyProof.Rows
def Prm.two (r:Fg->R2) (f:PyData->PyData->Option PR) (ok:∀ (K:Fg) (F:Addr->Prop) (H:Hp) (x y:PyData) (u v:V) (pr:PR) (Q:VK),f x y=some pr->Vw K F H x u->Vw K F H y v->(∀ b,F b->H b≠none)->(∀ w H',bf H H'->xx K F H H' pr w->Q w H')->r K u v H Q):Prm where
 r:=fun K vs H Q=>match vs with | [u,v]=>r K u v H Q | _=>False
 f:=fun ds=>match ds with | [x,y]=>f x y | _=>none
 ok:=fun K F H ds vs pr Q hf hv hd q=>by
  match ds,hf with
  | [x,y],hf =>
   obtain ⟨u,r1,rfl,h1,v,r2,rfl,h2,rfl⟩:=hv;exact ok K F H x y u v pr Q hf h1 h2 hd q
def Prm.one (r:Fg->V->Hp->VK->Prop) (f:PyData->Option PR) (ok:∀ (K:Fg) (F:Addr->Prop) (H:Hp) (x:PyData) (u:V) (pr:PR) (Q:VK),f x=some pr->Vw K F H x u->(∀ b,F b->H b≠none)->(∀ w H',bf H H'->xx K F H H' pr w->Q w H')->r K u H Q):Prm where
 r:=fun K vs H Q=>match vs with | [u]=>r K u H Q | _=>False
 f:=fun ds=>match ds with | [x]=>f x | _=>none
 ok:=fun K F H ds vs pr Q hf hv hd q=>by
  match ds,hf with
  | [x],hf =>
   obtain ⟨u,r1,rfl,h1,rfl⟩:=hv;exact ok K F H x u pr Q hf h1 hd q
section
variable {K:Fg} {F F':Addr->Prop} {H:Hp}
theorem vInt {i:Int} {v:V} (h:Vw K F H (.int i) v):v=.int i:=h
theorem vBl {b:Bool} {v:V} (h:Vw K F H (.bool b) v):v=.bl b:=h
theorem Hf {v:V} (h:Vw K F H .none v):v=.non:=h
theorem vStr {x:Str} {v:V} (h:Vw K F H (.str x) v):v=.str x/\x.length<=sizeLine/\PyData.strOk x=true:=h
theorem pe {ds:List PyData} {v:V} (h:Vw K F H (.list ds) v):∃ a xs,v=.ref a/\SqL K H a xs/\xs.length<=sizeLine/\DmL K F H ds xs:=let ⟨a,e,xs,r⟩:=h;⟨a,xs,e,r⟩
theorem vn {ds:List PyData} {v:V} (h:Vw K F H (.tuple ds) v):∃ a xs,v=.ref a/\SqT K H a xs/\xs.length<=sizeLine/\DmL K F H ds xs:=h
theorem z8 {p:Addr} {xs:List V} {ds:List PyData} (hp:H p=none) (hz:xs.length<=sizeLine) (h:DmL K F H ds xs):xx K F H (upd H p (.lst xs)) (.frs (.list ds)) (.ref p) :=
 ⟨p,rfl,hp,xs,aF,hz,(h.fresh hp).pr (Pr.of_same (bf.nw _ hp)) fun _ z=>z⟩
theorem Ed {p:Addr} {xs:List V} {ds:List PyData} (hp:H p=none) (hz:xs.length<=sizeLine) (h:DmL K F H ds xs):xx K F H (upd H p (.tup xs)) (.dat (.tuple ds)) (.ref p) :=
 ⟨p,xs,rfl,.inl (.inl aF),hz,h.pr (Pr.of_same (bf.nw _ hp)) fun _ z=>z⟩
end
def Hl:PyData->PyData->Option PR
 | .int i,.int j=>some (.dat (.int (i+j)))
 | .str x,.str y=>if x.length+y.length<=sizeLine then some (.dat (.str (x++y))) else none
 | .list xs,.list ys=>if xs.length+ys.length<=sizeLine then some (.frs (.list (xs++ys))) else none
 | .tuple (x :: xs),.tuple ys=>if (x :: xs).length+ys.length<=sizeLine then some (.dat (.tuple ((x :: xs)++ys))) else none
 | _,_=>none
def EO (K:Fg):R2:=rOr (rI0 fun i j=>.int (i+j)) (rOr Az (rOr (CH K) (Aw K)))
theorem i6 (x y:Str):(x++y).length=x.length+y.length:=by
 show (x.cps++y.cps).size=_;rw [Array.size_append];rfl
def il:Prm:=Prm.two EO Hl fun K F H x y u v pr Q hf hx hy hd q=>by
 unfold Hl at hf;split at hf
 ·cases hf;rw [vInt hx,vInt hy];exact .inl ⟨_,_,rfl,rfl,q _ H (bf.rf H) rfl⟩
 ·split at hf
  ·rename_i x y hl;cases hf;obtain ⟨rfl,l1,o1⟩:=vStr hx;obtain ⟨rfl,l2,o2⟩:=vStr hy;exact .inr (.inl ⟨_,_,rfl,rfl,hl,q _ H (bf.rf H) ⟨rfl,by rw [i6];exact hl,mK o1 o2⟩⟩)
  ·cases hf
 ·split at hf
  ·rename_i xs ys hl;cases hf;obtain ⟨a,us,rfl,s1,z1,d1⟩:=pe hx;obtain ⟨b,ws,rfl,s2,z2,d2⟩:=pe hy;have hl':us.length+ws.length<=sizeLine:=by rw [d1.len,d2.len];exact hl
   exact .inr (.inr (.inl ⟨a,b,us,ws,rfl,rfl,s1,s2,hl',fun p hp=>q _ _ (bf.nw _ hp) (z8 hp (by rw [IJ];exact hl') (d1.app d2))⟩))
  ·cases hf
 ·split at hf
  ·rename_i x xs ys hl;cases hf;obtain ⟨a,us,rfl,s1,z1,d1⟩:=vn hx;obtain ⟨b,ws,rfl,s2,z2,d2⟩:=vn hy;have hl':us.length+ws.length<=sizeLine:=by rw [d1.len,d2.len];exact hl
   have hne:us≠[]:=fun z=>by rw [z] at d1;obtain ⟨v,r,e,_⟩:=d1;cases e
   refine .inr (.inr (.inr ⟨a,b,us,ws,rfl,rfl,s1,s2,hne,hl',fun z=>?_,fun z p hp=>q _ _ (bf.nw _ hp) (Ed hp (by rw [IJ];exact hl') (d1.app d2))⟩));subst z;have hys:ys=[]:=by
    cases ys with
    | nil=>rfl
    | cons y ys=>obtain ⟨v,r,e,_⟩:=d2;cases e
   subst hys;exact q _ H (bf.rf H) ⟨a,us,rfl,s1,z1,by rw [JV];exact d1⟩
  ·cases hf
 ·cases hf
theorem cw {X:Cx}:OpR X (binaryOp .Add) (fun x y=>il.r X.K [x,y]):=orR Ay (orR yh (orR yJ yT))
def Af (c:Int->Int->Bool) (g:Int->Int->PyData):PyData->PyData->Option PR
 | .int i,.int j=>if c i j=true then some (.dat (g i j)) else none
 | _,_=>none
def Prm.ints (C:Int->Int->Prop) (c:Int->Int->Bool) (hc:∀ i j,c i j=true->C i j) (g:Int->Int->Int):Prm:=Prm.two (fun _=>rI C fun i j=>.int (g i j)) (Af c fun i j=>.int (g i j)) fun K F H x y u v pr Q hf hx hy hd q=>by
 unfold Af at hf;split at hf
 ·split at hf
  ·rename_i h;cases hf;rw [vInt hx,vInt hy];exact ⟨_,_,rfl,rfl,hc _ _ h,q _ H (bf.rf H) rfl⟩
  ·cases hf
 ·cases hf
def Prm.B8 (g:Int->Int->Bool):Prm:=Prm.two (fun _=>rI0 fun i j=>.bl (g i j)) (Af (fun _ _=>true) fun i j=>.bool (g i j)) fun K F H x y u v pr Q hf hx hy hd q=>by
 unfold Af at hf;split at hf
 ·rw [IX rfl] at hf;cases hf;rw [vInt hx,vInt hy];exact ⟨_,_,rfl,rfl,q _ H (bf.rf H) rfl⟩
 ·cases hf
def wN:Prm:=Prm.two (fun _=>rI0 fun i j=>.int (i - j)) (Af (fun _ _=>true) fun i j=>.int (i - j)) fun K F H x y u v pr Q hf hx hy hd q=>by
 unfold Af at hf;split at hf
 ·rw [IX rfl] at hf;cases hf;rw [vInt hx,vInt hy];exact ⟨_,_,rfl,rfl,q _ H (bf.rf H) rfl⟩
 ·cases hf
theorem kQ {X:Cx}:OpR X (binaryOp .Sub) (fun x y=>wN.r X.K [x,y]):=A9
def mulC (i j:Int):Bool:=(decide (-(2 ^ 64) < i)&&decide (i < 2 ^ 64))||(decide (-(2 ^ 64) < j)&&decide (j < 2 ^ 64))
def lT:Prm:=Prm.ints Di mulC (fun i j h=>by simpa [mulC,Di,Bool.or_eq_true,JL,K9] using h) (fun i j=>i*j)
theorem eE {X:Cx}:OpR X (binaryOp .Mult) (fun x y=>lT.r X.K [x,y]):=AR
def lg:Prm:=Prm.ints (fun _ j=>0 < j) (fun _ j=>decide (0 < j)) (fun i j h=>by simpa using h) (fun i j=>i % j)
theorem dN {X:Cx}:OpR X (binaryOp .Mod) (fun x y=>lg.r X.K [x,y]):=A3
def n4:Prm:=Prm.ints (fun _ j=>0 < j/\j.natAbs.log2 < 9000) (fun _ j=>decide (0 < j)&&decide (j < 2 ^ 200)) (fun i j h=>by
 simp only [JL,K9] at h;refine ⟨h.1,?_⟩;have hz:j.natAbs≠0:=by omega
 have:j.natAbs < 2 ^ 200:=by omega
 exact Jm ((Nat.log2_lt hz).mpr this) (by decide)) (fun i j=>i / j)
theorem lE {X:Cx}:OpR X (binaryOp .FloorDiv) (fun x y=>n4.r X.K [x,y]):=v8
def AW:Prm:=Prm.ints Hd (fun i j=>decide (0<=j)&&decide (j<=1000000)&&decide (i.natAbs < 2 ^ 64)) (fun i j h=>by simp only [JL,K9] at h;exact ⟨h.1.1,h.1.2,h.2⟩) (fun i j=>i ^ j.toNat)
theorem vg {X:Cx}:OpR X (binaryOp .Pow) (fun x y=>AW.r X.K [x,y]):=Df
def Hg:Prm:=Prm.one (fun _=>rU fun i=>.int (-i)) (fun x=>match x with | .int i=>some (.dat (.int (-i))) | _=>none) fun K F H x u pr Q hf hx hd q=>by
 split at hf
 ·cases hf;rw [vInt hx];exact ⟨_,rfl,q _ H (bf.rf H) rfl⟩
 ·cases hf
def Bw (g:Int->Int->Bool) (h:Str->Str->Bool):PyData->PyData->Option PR
 | .int i,.int j=>some (.dat (.bool (g i j)))
 | .str x,.str y=>some (.dat (.bool (h x y)))
 | _,_=>none
def ltS (x y:Str):Bool:=decide (x.cps.toList < y.cps.toList)
def leS (x y:Str):Bool:=!decide (y.cps.toList < x.cps.toList)
def ltP:Prm:=Prm.two (fun _=>rOr (rI0 fun i j=>.bl (decide (i < j))) E8) (Bw (fun i j=>decide (i < j)) ltS) fun K F H x y u v pr Q hf hx hy hd q=>by
 unfold Bw at hf;split at hf
 ·cases hf;rw [vInt hx,vInt hy];exact .inl ⟨_,_,rfl,rfl,q _ H (bf.rf H) rfl⟩
 ·cases hf;rw [(vStr hx).1,(vStr hy).1];exact .inr ⟨_,_,rfl,rfl,q _ H (bf.rf H) rfl⟩
 ·cases hf
theorem jU {X:Cx}:OpR X (compareOp .Lt) (fun x y=>ltP.r X.K [x,y]):=orR Gi C4
def leP:Prm:=Prm.two (fun _=>rOr (rI0 fun i j=>.bl (decide (i<=j))) GW) (Bw (fun i j=>decide (i<=j)) leS) fun K F H x y u v pr Q hf hx hy hd q=>by
 unfold Bw at hf;split at hf
 ·cases hf;rw [vInt hx,vInt hy];exact .inl ⟨_,_,rfl,rfl,q _ H (bf.rf H) rfl⟩
 ·cases hf;rw [(vStr hx).1,(vStr hy).1];exact .inr ⟨_,_,rfl,rfl,q _ H (bf.rf H) rfl⟩
 ·cases hf
theorem nc {X:Cx}:OpR X (compareOp .LtE) (fun x y=>leP.r X.K [x,y]):=orR DX A4
def gtP:Prm:=Prm.B8 fun i j=>decide (i > j)
theorem pA {X:Cx}:OpR X (compareOp .Gt) (fun x y=>gtP.r X.K [x,y]):=Gr
def geP:Prm:=Prm.B8 fun i j=>decide (i>=j)
theorem By {X:Cx}:OpR X (compareOp .GtE) (fun x y=>geP.r X.K [x,y]):=ES
mutual
def noD:PyData->Bool
 | .dict _=>false
 | .list xs=>fK xs
 | .tuple xs=>fK xs
 | _=>true
def fK:List PyData->Bool
 | []=>true
 | x :: xs=>noD x&&fK xs
end
section
variable {K:Fg} {F:Addr->Prop} {H:Hp}
mutual
theorem Dm.lay:∀ {d:PyData} {v:V},Dm K F H d v->noD d=true->d.canLay0=true
 | .none,v,h,_=>by simp [PyData.canLay0]
 | .bool b,v,h,_=>by simp [PyData.canLay0]
 | .int i,v,h,_=>by simp [PyData.canLay0]
 | .str x,v,h,_=>by simpa [PyData.canLay0] using h.2.2
 | .list ds,v,h,n=>by obtain ⟨a,xs,e,l,z,r⟩:=h;simpa [PyData.canLay0] using DmL.lay r (by simpa [noD] using n)
 | .tuple ds,v,h,n=>by obtain ⟨a,xs,e,l,z,r⟩:=h;simpa [PyData.canLay0] using DmL.lay r (by simpa [noD] using n)
 | .dict kvs,v,h,n=>by simp [noD] at n
theorem DmL.lay:∀ {ds:List PyData} {vs:List V},DmL K F H ds vs->fK ds=true->PyData.canLayAll0 ds=true
 | [],vs,h,_=>by simp [PyData.canLayAll0]
 | d :: ds,vs,h,n=>by
  obtain ⟨v,r,e,h1,h2⟩:=h;have n':noD d=true/\fK ds=true:=by simpa [fK] using n
  simp [PyData.canLayAll0,Dm.lay h1 n'.1,DmL.lay h2 n'.2]
end
theorem Vw.lay {d:PyData} {v:V} (h:Vw K F H d v) (n:noD d=true):d.canLay0=true:=by
 cases d with
 | list ds=>obtain ⟨a,xs,e,l,z,r⟩:=pe h;simpa [PyData.canLay0] using DmL.lay r (by simpa [noD] using n)
 | dict ds=>simp [noD] at n
 | _=>exact Dm.lay (K:=K) (F:=F) (H:=H) h n
variable {X:Cx} {pins:List (Addr×Obj)} {σ:St} {s:Shared}
mutual
theorem Dm.reads (I:Inv X pins σ H s):∀ {d:PyData} {v:V} {u:Value},Dm X.K F H d v->noD d=true->RelV v u->∃ as,Reads s.heap u d as
 | .none,v,u,hd,_,r=>by
  have e:v=.non:=hd;subst e;cases (show u=Value.none from r);exact ⟨_,.none⟩
 | .bool b,v,u,hd,_,r=>by
  have e:v=.bl b:=hd;subst e;cases (show u=Value.bool b from r);exact ⟨_,.bool b⟩
 | .int i,v,u,hd,_,r=>by
  have e:v=.int i:=hd;subst e;obtain ⟨t,e⟩:=(show ∃ t,u=Value.int i t from r);subst e;exact ⟨_,.int i t⟩
 | .str y,v,u,hd,_,r=>by
  have e:v=.str y:=hd.1;subst e;obtain ⟨t,e⟩:=(show ∃ t,u=Value.str y t from r);subst e;exact ⟨_,.str y t⟩
 | .list ds,v,u,hd,n,r=>by
  obtain ⟨a,xs,e,l,z,rs⟩:=hd;subst e;cases (show u=Value.ref a from r);obtain ⟨its,rv,⟨o,k,h1,h2,h3,h4⟩,_⟩:=I.list (l.elim (fun q=>.inl q.2) .inr);obtain ⟨as,ra⟩:=DmL.reads I rs (by simpa [noD] using n) rv;exact ⟨_,.list h1 h2 h4 (by simpa using ra)⟩
 | .tuple ds,v,u,hd,n,r=>by
  obtain ⟨a,xs,e,l,z,rs⟩:=hd;subst e;cases (show u=Value.ref a from r);obtain ⟨its,rv,⟨o,h1,h2,k,h4⟩,_⟩:=I.tuple l;obtain ⟨as,ra⟩:=DmL.reads I rs (by simpa [noD] using n) rv;exact ⟨_,.tuple h1 h2 h4 (by simpa using ra)⟩
 | .dict kvs,v,u,hd,n,r=>by simp [noD] at n
theorem DmL.reads (I:Inv X pins σ H s):∀ {ds:List PyData} {vs:List V} {us:List Value},DmL X.K F H ds vs->fK ds=true->Vals vs us->∃ as,ReadsAll s.heap us ds as
 | [],vs,us,hd,_,r=>by
  have e:vs=[]:=hd;subst e;cases r;exact ⟨_,.nil⟩
 | d :: ds,vs,us,hd,n,r=>by
  obtain ⟨v,rr,e,h1,h2⟩:=hd;have n':noD d=true/\fK ds=true:=by simpa [fK] using n
  subst e;cases r with
  | cons r1 r2 =>
   obtain ⟨as,q1⟩:=Dm.reads I h1 n'.1 r1;obtain ⟨bs,q2⟩:=DmL.reads I h2 n'.2 r2;exact ⟨_,.cons q1 q2⟩
end
theorem Vw.reads (I:Inv X pins σ H s) {d:PyData} {v:V} {u:Value} (h:Vw X.K F H d v) (n:noD d=true) (r:RelV v u):∃ as,Reads s.heap u d as:=by
 cases d with
 | list ds =>
  obtain ⟨a,xs,rfl,l,z,rs⟩:=pe h;cases (show u=Value.ref a from r);obtain ⟨its,rv,⟨o,k,h1,h2,h3,h4⟩,_⟩:=I.list l;obtain ⟨as,ra⟩:=DmL.reads I rs (by simpa [noD] using n) rv;exact ⟨_,.list h1 h2 h4 (by simpa using ra)⟩
 | dict ds=>simp [noD] at n
 | _=>exact Dm.reads (F:=F) I h n r
end
def ip (d:PyData):Bool:=noD d&&decide (d.depth<=64)
def HZ (neg:Bool) (K:Fg):R2:=fun x y H Q=>∃ F d e,Vw K F H d x/\Vw K F H e y/\ip d=true/\ip e=true/\Q (.bl (if neg then !PyData.eqv d e else PyData.eqv d e)) H
def eqD (neg:Bool) (d e:PyData):Option PR:=if ip d=true/\ip e=true then some (.dat (.bool (if neg then !PyData.eqv d e else PyData.eqv d e))) else none
def DV (neg:Bool):Prm:=Prm.two (HZ neg) (eqD neg) fun K F H x y u v pr Q hf hx hy hd q=>by
 unfold eqD at hf;split at hf
 ·rename_i h;cases hf;exact ⟨F,x,y,hx,hy,h.1,h.2,q _ H (bf.rf H) rfl⟩
 ·cases hf
abbrev eqP:Prm:=DV false
abbrev neP:Prm:=DV true
theorem gg {K:Fg} {F:Addr->Prop} {H:Hp} {d:PyData} {v:V} (h:Vw K F H d v) (o:ip d=true):SeqAt.shaped d=true:=by
 have o':noD d=true/\d.depth<=64:=by simpa [ip] using o
 simp [SeqAt.shaped,h.lay o'.1,o'.2]
theorem eZ {X:Cx} (hu:X.A.units+64 < cLine):OpR X (compareOp .Eq) (fun x y=>eqP.r X.K [x,y]):=by
 intro pins s σ H x y v u Q I rx ry h;obtain ⟨F,d,e,h1,h2,o1,o2,hq⟩:=h;obtain ⟨as,r1⟩:=h1.reads I (by have:=o1;simp [ip] at this;exact this.1) rx;obtain ⟨bs,r2⟩:=h2.reads I (by have:=o2;simp [ip] at this;exact this.1) ry;exact SeqAt.compareEq_shaped r1 r2 (gg h1 o1) (gg h2 o2) hu ⟨.bl _,H,I,rfl,hq⟩
theorem jI {X:Cx} (hu:X.A.units+64 < cLine):OpR X (compareOp .NotEq) (fun x y=>neP.r X.K [x,y]):=by
 intro pins s σ H x y v u Q I rx ry h;obtain ⟨F,d,e,h1,h2,o1,o2,hq⟩:=h;obtain ⟨as,r1⟩:=h1.reads I (by have:=o1;simp [ip] at this;exact this.1) rx;obtain ⟨bs,r2⟩:=h2.reads I (by have:=o2;simp [ip] at this;exact this.1) ry;exact SeqAt.compareNe_shaped r1 r2 (gg h1 o1) (gg h2 o2) hu ⟨.bl _,H,I,rfl,hq⟩
def ixD:PyData->PyData->Option PR
 | .list xs,.int i=>(atI xs i).map .dat
 | .tuple xs,.int i=>(atI xs i).map .dat
 | .str x,.int i=>(atI x.cps.toList i).map fun c=>.dat (.str ⟨#[c]⟩)
 | _,_=>none
theorem xi {K:Fg} {F:Addr->Prop} {H:Hp} {ds:List PyData} {xs:List V} {i:Int} {d:PyData} (h:DmL K F H ds xs) (e:atI ds i=some d):∃ v,atI xs i=some v/\Dm K F H d v:=by
 unfold atI at e ⊢;rw [h.len];cases q:ixN ds.length i with
 | none=>rw [q] at e;cases e
 | some j =>
  rw [q] at e;have e:ds[j]?=some d:=e;exact h.get e
theorem yD {α:Type} {xs:List α} {i:Int} {x:α} (e:atI xs i=some x):x∈xs:=by
 unfold atI at e;cases q:ixN xs.length i with
 | none=>rw [q] at e;cases e
 | some j=>rw [q] at e;exact Jn (show xs[j]?=some x from e)
def ixP:Prm:=Prm.two rIx ixD fun K F H x y u v pr Q hf hx hy hd q=>by
 unfold ixD at hf;split at hf
 ·obtain ⟨d,e,rfl⟩:=Jp.mp hf;obtain ⟨a,us,rfl,s1,z1,d1⟩:=pe hx;rw [vInt hy];obtain ⟨v,ev,dv⟩:=xi d1 e;exact .inl ⟨a,us,_,v,rfl,rfl,s1,ev,q _ H (bf.rf H) dv⟩
 ·obtain ⟨d,e,rfl⟩:=Jp.mp hf;obtain ⟨a,us,rfl,s1,z1,d1⟩:=vn hx;rw [vInt hy];obtain ⟨v,ev,dv⟩:=xi d1 e;exact .inr (.inl ⟨a,us,_,v,rfl,rfl,s1,ev,q _ H (bf.rf H) dv⟩)
 ·rename_i x i;obtain ⟨c,e,rfl⟩:=Jp.mp hf;obtain ⟨rfl,l1,o1⟩:=vStr hx;rw [vInt hy];have hc:=gr o1 c (yD e);exact .inr (.inr ⟨_,_,c,rfl,rfl,l1,e,q _ H (bf.rf H) ⟨rfl,by show 1<=sizeLine;decide,by simp [PyData.strOk,hc]⟩⟩)
 ·cases hf
theorem aQ {X:Cx}:IxR X (fun x y=>ixP.r X.K [x,y]):=Dy
def cutD {α:Type} (xs:List α) (lo hi:Option Int):List α:=(xs.drop (HT.sIx xs.length 0 lo)).take (HT.sIx xs.length xs.length hi - HT.sIx xs.length 0 lo)
def slD (lo hi:Option Int):PyData->Option PR
 | .list xs=>some (.frs (.list (cutD xs lo hi)))
 | .tuple xs=>if HT.sIx xs.length 0 lo=0/\HT.sIx xs.length xs.length hi=xs.length then none else some (.dat (.tuple (cutD xs lo hi)))
 | .str x=>some (.dat (.str (vv x lo hi)))
 | _=>none
def Hn (K:Fg) (lo hi:Option Int):V->Hp->VK->Prop:=fun x H Q=>Be EF (Be (Gm K) (Ge K)) x lo hi H Q
section
variable {K:Fg} {F:Addr->Prop} {H:Hp}
theorem DmL.drop:∀ {ds:List PyData} {xs:List V} (n:Nat),DmL K F H ds xs->DmL K F H (ds.drop n) (xs.drop n)
 | ds,xs,0,h=>h
 | [],xs,n+1,h=>by rw [show xs=[] from h];rfl
 | d :: ds,xs,n+1,h=>by obtain ⟨v,r,rfl,_,h2⟩:=h;exact DmL.drop n h2
theorem DmL.take:∀ {ds:List PyData} {xs:List V} (n:Nat),DmL K F H ds xs->DmL K F H (ds.take n) (xs.take n)
 | ds,xs,0,h=>by rw [List.take_zero,List.take_zero];rfl
 | [],xs,n+1,h=>by rw [show xs=[] from h];rfl
 | d :: ds,xs,n+1,h=>by obtain ⟨v,r,rfl,h1,h2⟩:=h;exact ⟨v,_,rfl,h1,DmL.take n h2⟩
theorem DmL.cut {ds:List PyData} {xs:List V} (lo hi:Option Int) (h:DmL K F H ds xs):DmL K F H (cutD ds lo hi) (vp xs lo hi):=by
 unfold cutD vp;rw [h.len];exact (h.drop _).take _
theorem p9 (xs:List V) (lo hi:Option Int):(vp xs lo hi).length<=xs.length:=by
 unfold vp;rw [JN,Kk];omega
theorem tY {x:Str} (lo hi:Option Int) (h:PyData.strOk x=true):PyData.strOk (vv x lo hi)=true:=by
 have hm:=gr h;unfold PyData.strOk vv;rw [Array.all_eq_true'];intro c hc;have:c∈(x.cps.toList.drop (HT.sIx x.length 0 lo)).take (HT.sIx x.length x.length hi - HT.sIx x.length 0 lo):=by simpa using hc
 have:=hm c (List.mem_of_mem_drop (List.mem_of_mem_take this));simpa using this
theorem Gq {lo hi:Option Int} {x:PyData} {u:V} {pr:PR} {Q:VK} (hf:slD lo hi x=some pr) (hx:Vw K F H x u) (q:∀ w H',bf H H'->xx K F H H' pr w->Q w H'):Hn K lo hi u H Q:=by
 unfold slD at hf;split at hf
 ·cases hf;obtain ⟨a,us,rfl,s1,z1,d1⟩:=pe hx;exact .inr (.inl ⟨a,us,rfl,s1,fun p hp=>q _ _ (bf.nw _ hp) (z8 hp (Ju (p9 _ _ _) z1) (d1.cut lo hi))⟩)
 ·split at hf
  ·cases hf
  rename_i hn;cases hf;obtain ⟨a,us,rfl,s1,z1,d1⟩:=vn hx;exact .inr (.inr ⟨a,us,rfl,s1,by rw [d1.len];exact hn,fun p hp=>q _ _ (bf.nw _ hp) (Ed hp (Ju (p9 _ _ _) z1) (d1.cut lo hi))⟩)
 ·cases hf;obtain ⟨rfl,l1,o1⟩:=vStr hx;exact .inl ⟨_,rfl,l1,q _ H (bf.rf H) ⟨rfl,Ju (ja _ _ _) l1,tY lo hi o1⟩⟩
 ·cases hf
end
def HP:Prm:=Prm.two (fun K x y H Q=>∃ i,y=.int i/\Hn K none (some i) x H Q) (fun x y=>match y with | .int i=>slD none (some i) x | _=>none) fun K F H x y u v pr Q hf hx hy hd q=>by
 split at hf
 ·exact ⟨_,vInt hy,Gq hf hx q⟩
 ·cases hf
def G8:PyData->Option PR
 | .str x=>some (.dat (.int x.length))
 | .list xs=>some (.dat (.int xs.length))
 | .tuple xs=>some (.dat (.int xs.length))
 | _=>none
def dZ:Prm:=Prm.one (fun K x=>C3 K [x]) G8 fun K F H x u pr Q hf hx hd q=>by
 unfold G8 at hf;split at hf
 ·cases hf;obtain ⟨rfl,l1,o1⟩:=vStr hx;exact Bz l1 (q _ H (bf.rf H) rfl)
 ·cases hf;obtain ⟨a,us,rfl,s1,z1,d1⟩:=pe hx;exact AS s1 (q _ H (bf.rf H) (by rw [d1.len];rfl))
 ·cases hf;obtain ⟨a,us,rfl,s1,z1,d1⟩:=vn hx;exact AB s1 (q _ H (bf.rf H) (by rw [d1.len];rfl))
 ·cases hf
theorem kI {X:Cx} {f:Value} {r:List V->Hp->VK->Prop} {r':V->Hp->VK->Prop} (h:bM X f r) (e:∀ x H Q,r' x H Q->r [x] H Q):bM X f (fun vs H Q=>match vs with | [u]=>r' u H Q | _=>False):=by
 intro pins s σ H xs us Q I rv q
 match xs,q with
 | [x],q=>exact h pins s σ H [x] us Q I rv (e x H Q q)
theorem bI {X:Cx}:bM X (.builtin "len") (dZ.r X.K):=kI vb fun _ _ _ h=>h
def yM:Prm:=Prm.one (fun _ x=>Eh [x]) (fun x=>match x with | .int i=>some (.dat (.int (if i < 0 then -i else i))) | _=>none) fun K F H x u pr Q hf hx hd q=>by
 split at hf
 ·cases hf;rw [vInt hx];exact D8 (q _ H (bf.rf H) rfl)
 ·cases hf
theorem nQ {X:Cx}:bM X (.builtin "abs") (yM.r X.K):=kI rY fun _ _ _ h=>h
def E3:Prm:=Prm.one (fun _ x=>BL [x]) (fun x=>match x with | .int i=>some (.dat (.int i)) | .bool k=>some (.dat (.int (if k then 1 else 0))) | _=>none) fun K F H x u pr Q hf hx hd q=>by
 split at hf
 ·cases hf;rw [vInt hx];exact .inl ⟨_,rfl,q _ H (bf.rf H) rfl⟩
 ·cases hf;rw [vBl hx];exact .inr ⟨_,rfl,q _ H (bf.rf H) rfl⟩
 ·cases hf
theorem yO {X:Cx}:bM X (.type "int") (E3.r X.K):=kI uQ fun _ _ _ h=>h
def Ab (T:String) (x:PyData):Option PR:=match T with
 | "str" => some (.dat (.bool (isS x)))
 | "int" => some (.dat (.bool (isI x)))
 | "bool" => some (.dat (.bool (isB x)))
 | "tuple" => some (.dat (.bool (isT x)))
 | "list" => some (.dat (.bool (isL x)))
 | _=>none
def Gz (T:String) (K:Fg):V->Hp->VK->Prop:=fun x H Q=>∃ F d b,Vw K F H d x/\Ab T d=some (.dat (.bool b))/\Q (.bl b) H
theorem Fz {T:String} {d:PyData} {pr:PR} (h:Ab T d=some pr):∃ b,pr=.dat (.bool b):=by
 unfold Ab at h;split at h <;> first | (cases h;exact ⟨_,rfl⟩) | cases h
def iD (T:String):Prm:=Prm.one (Gz T) (Ab T) fun K F H x u pr Q hf hx hd q=>by
 obtain ⟨b,rfl⟩:=Fz hf;exact ⟨F,x,b,hx,hf,q _ H (bf.rf H) rfl⟩
theorem yK {K:Fg} {T:String} {d:PyData} {b:Bool} (h:Ab T d=some (.dat (.bool b))):PySem.W.kitOne K (.type (tyN d)) (.type T)=some b:=by
 unfold Ab at h;split at h
 ·cases h;exact GL d
 ·cases h;exact Gh d
 ·cases h;exact Fm d
 ·cases h;exact Cr d
 ·cases h;exact BK d
 ·cases h
def HH (K:Fg):List V->Hp->VK->Prop:=fun vs H Q=>match vs with | [x,.ty T]=>(iD T).r K [x] H Q | _=>False
theorem yY {X:Cx}:bM X (.builtin "isinstance") (HH X.K):=by
 intro pins s σ H xs us Q I r h
 match xs,h with
 | [x,.ty T'],h =>
  obtain ⟨F,d,b,hv,hb,q⟩:=h;obtain ⟨u,w',rfl,r1,r2⟩:=vals2 r;cases (show w'=Value.type T' from r2);have e:=yK (K:=X.K) hb;have fin:∀ tk,EP X pins σ Q (.bool b) { s with toks:=tk }:=fun tk=>⟨.bl b,H,I.tok _,rfl,q⟩;cases d with
  | none=>rw [Hf hv] at r1;cases (show u=Value.none from r1);exact KL PySem.W.kitx_none I.kIn True.intro e (fun z=>nomatch z) fin
  | bool y=>rw [vBl hv] at r1;cases (show u=Value.bool y from r1);exact KL PySem.W.kitx_bool I.kIn True.intro e (fun z=>nomatch z) fin
  | int i=>rw [vInt hv] at r1;obtain ⟨t,q⟩:=(show ∃ t,u=Value.int i t from r1);cases q;exact KL PySem.W.kitx_int I.kIn True.intro e (fun z=>nomatch z) fin
  | str y=>rw [(vStr hv).1] at r1;obtain ⟨t,q⟩:=(show ∃ t,u=Value.str y t from r1);cases q;exact KL PySem.W.kitx_str I.kIn True.intro e (fun z=>nomatch z) fin
  | list ds =>
   obtain ⟨a,xs,rfl,l,z,rs⟩:=pe hv;cases (show u=Value.ref a from r1);obtain ⟨its,rv,⟨o,k,h1,h2,h3,h4⟩,_⟩:=I.list l;exact KL PySem.W.kitx_list I.kIn ⟨o,h1,h2⟩ e (fun z=>nomatch z) fin
  | tuple ds =>
   obtain ⟨a,xs,rfl,l,z,rs⟩:=vn hv;cases (show u=Value.ref a from r1);obtain ⟨its,rv,⟨o,h1,h2,k,h4⟩,_⟩:=I.tuple l;exact KL PySem.W.kitx_tuple I.kIn ⟨o,h1,h2⟩ e (fun z=>nomatch z) fin
  | dict ds =>
   obtain ⟨a,rfl,ep,xs,ea,_⟩:=hv;cases (show u=Value.ref a from r1);obtain ⟨_,_,_,o,es,h1,h2,_⟩:=(show b6 X.prog X.w H s.heap a (.dD ep xs) from I.hok a _ ea);exact KL PySem.W.kitx_dict I.kIn ⟨o,h1,h2.1⟩ e (fun z=>nomatch z) fin
def chars (x:Str):List PyData:=x.cps.toList.map fun c=>.str ⟨#[c]⟩
def fR (x:Str):List V:=x.cps.toList.map fun c=>.str ⟨#[c]⟩
def AO (K:Fg):V->Hp->VK->Prop:=fun x H Q=>BX K [x] H Q\/∃ z,x=.str z/\z.length<=sizeLine/\∀ p,H p=none->Q (.ref p) (upd H p (.lst (fR z)))
def B0:PyData->Option PR
 | .list xs=>some (.frs (.list xs))
 | .tuple xs=>some (.frs (.list xs))
 | .str x=>some (.frs (.list (chars x)))
 | _=>none
def zN:Prm:=Prm.one AO B0 fun K F H x u pr Q hf hx hd q=>by
 unfold B0 at hf;split at hf
 ·cases hf;obtain ⟨a,us,rfl,s1,z1,d1⟩:=pe hx;exact .inl ⟨a,us,rfl,.inl s1,fun p hp=>q _ _ (bf.nw _ hp) (z8 hp z1 d1)⟩
 ·cases hf;obtain ⟨a,us,rfl,s1,z1,d1⟩:=vn hx;exact .inl ⟨a,us,rfl,.inr s1,fun p hp=>q _ _ (bf.nw _ hp) (z8 hp z1 d1)⟩
 ·cases hf;obtain ⟨rfl,l1,o1⟩:=vStr hx;refine .inr ⟨_,rfl,l1,fun p hp=>q _ _ (bf.nw _ hp) (z8 hp ?_ (zp (gr o1)))⟩;rw [show (fR _).length=_ from IK _];simpa [Str.length] using l1
 ·cases hf
theorem qf:∀ {xs:List V} {us:List Value},xs.length=us.length->(∀ (i:Nat) (x:V) (u:Value),xs[i]?=some x->us[i]?=some u->RelV x u)->Vals xs us
 | [],[],_,_=>.nil
 | [],_ :: _,h,_=>by cases h
 | _ :: _,[],h,_=>by cases h
 | x :: xs,u :: us,h,q=>.cons (q 0 x u rfl rfl) (qf (by simpa using h) fun i y w h1 h2=>q (i+1) y w (by simpa using h1) (by simpa using h2))
theorem qS {z:Str} {acc:Array Value} (h:ItemsOf (SignAt z) acc z.cps.size):Vals (fR z) acc.toList:=by
 refine qf ?_ fun i x u h1 h2=>?_
 ·rw [show (fR z).length=_ from IK _];simp [h.1]
 ·obtain ⟨c,t,hc,rfl⟩:=h.2 i u (by simpa using h2);unfold fR at h1;rw [Jd] at h1;have:z.cps.toList[i]?=some c:=by rw [<- hc];simp
  rw [this] at h1;cases h1;exact ⟨t,rfl⟩
theorem nh {X:Cx} (hc:X.calm=true):bM X (.type "list") (fun xs H Q=>∃ z,xs=[.str z]/\z.length<=sizeLine/\∀ p,H p=none->Q (.ref p) (upd H p (.lst (fR z)))):=by
 intro pins s σ H xs us Q I r h;obtain ⟨z,rfl,hl,q⟩:=h;obtain ⟨u,rfl,r1⟩:=vals1 r;obtain ⟨t,rfl⟩:=r1;have hz:(fR z).length<=sizeLine:=by rw [show (fR z).length=_ from IK _];simpa [Str.length] using hl
 refine call_list_str (I.ok.hd hc) z t (fun h' tk acc' c' hk hS hacc=>?_) hl;refine ⟨.ref s.heap.objs.size,_,I.laid (t':=tk) hk (IY _) (show b6 X.prog X.w _ h' _ (.lst (fR z)) from ⟨hz,acc'.toList,c',?_,by rw [Array.toArray_toList];exact hS⟩),rfl,q _ (I.hok.fresh (IY _))⟩;exact qS hacc
theorem vV {X:Cx} {f:Value} {r r':List V->Hp->VK->Prop} (h:bM X f r) (h':bM X f r'):bM X f (fun xs H Q=>r xs H Q\/r' xs H Q):=by
 intro pins s σ H xs us Q I rv q;rcases q with q | q
 ·exact h pins s σ H xs us Q I rv q
 ·exact h' pins s σ H xs us Q I rv q
theorem wg {X:Cx} (hc:X.calm=true):bM X (.type "list") (zN.r X.K):=kI (vV qR (nh hc)) fun x H Q h=>h.imp id fun ⟨z,e,r⟩=>⟨z,by rw [e],r⟩
def xT:PyData->Option PR
 | .list xs=>some (.dat (.tuple xs))
 | .tuple xs=>some (.dat (.tuple xs))
 | _=>none
def ng:Prm:=Prm.one (fun K x=>xg K [x]) xT fun K F H x u pr Q hf hx hd q=>by
 unfold xT at hf;split at hf
 ·cases hf;obtain ⟨a,us,rfl,s1,z1,d1⟩:=pe hx;exact ⟨a,us,rfl,.inl ⟨s1,fun p hp=>q _ _ (bf.nw _ hp) (Ed hp z1 d1)⟩⟩
 ·cases hf;obtain ⟨a,us,rfl,s1,z1,d1⟩:=vn hx;exact ⟨a,us,rfl,.inr ⟨s1,q _ H (bf.rf H) ⟨a,us,rfl,s1,z1,d1⟩⟩⟩
 ·cases hf
theorem ml {X:Cx}:bM X (.type "tuple") (ng.r X.K):=kI oA fun _ _ _ h=>h
theorem ak (s:String):PyData.strOk (Str.ofString s)=true:=by
 rw [Str.ofString_eq_toList];unfold PyData.strOk;rw [Array.all_eq_true'];intro c hc;have:c∈s.toList.map Char.toNat:=by simpa using hc
 obtain ⟨ch,_,rfl⟩:=JB.mp this;have:=ch.valid;simp only [K9];rcases this with h | ⟨_,h⟩
 ·show ch.val.toNat < _;have:ch.val.toNat < 0xD800:=h;omega
 ·exact h
def iZ:List PyData->Option (List Bool)
 | []=>some []
 | .bool b :: r=>match iZ r with | some bs=>some (b :: bs) | none=>none
 | _ :: _=>none
theorem t7 {K:Fg} {F:Addr->Prop} {H:Hp}:∀ {ds:List PyData} {xs:List V} {bs:List Bool},iZ ds=some bs->DmL K F H ds xs->xs=bs.map V.bl
 | [],xs,bs,h,q=>by cases h;exact q
 | .bool b :: r,xs,bs,h,q=>by
  unfold iZ at h;split at h
  ·rename_i bs' h';cases h;obtain ⟨v,vr,rfl,h1,h2⟩:=q;rw [t7 h' h2,show v=.bl b from h1];rfl
  ·cases h
 | .none :: r,xs,bs,h,q=>by cases h
 | .int _ :: r,xs,bs,h,q=>by cases h
 | .str _ :: r,xs,bs,h,q=>by cases h
 | .list _ :: r,xs,bs,h,q=>by cases h
 | .tuple _ :: r,xs,bs,h,q=>by cases h
 | .dict _ :: r,xs,bs,h,q=>by cases h
def Ac:Prm:=Prm.one (fun K x=>GX K [x]) (fun x=>match x with | .list ds=>(iZ ds).map fun bs=>.dat (.bool (bs.all id)) | _=>none) fun K F H x u pr Q hf hx hd q=>by
 split at hf
 ·obtain ⟨bs,e,rfl⟩:=Jp.mp hf;obtain ⟨a,us,rfl,s1,z1,d1⟩:=pe hx;rw [t7 e d1] at s1;exact ⟨a,bs,rfl,s1,q _ H (bf.rf H) rfl⟩
 ·cases hf
theorem uJ {X:Cx} (hc:X.calm=true):bM X (.builtin "all") (Ac.r X.K):=kI (tf hc) fun _ _ _ h=>h
theorem sM {K:Fg} {F:Addr->Prop} {H:Hp} {k:PyData}:∀ {ds:List (PyData×PyData)} {xs:List (PyData×V×V)},DmP K F H ds xs->(∀ d,getD ds k=some d->∃ v,qw xs k=some v/\Dm K F H d v)/\(getD ds k=none->qw xs k=none)
 | [],xs,h=>by
  rw [show xs=[] from h];exact ⟨fun d e=>(nomatch e),fun _=>rfl⟩
 | (k',d') :: ds,xs,h=>by
  obtain ⟨j,v,r,rfl,e,_,h1,h2⟩:=h;have ih:=sM (k:=k) h2;unfold getD qw at ih ⊢;rw [List.find?_cons,List.find?_cons];cases PyData.eqv k' k with
  | true=>exact ⟨fun d e=>(by cases e;exact ⟨v,rfl,h1⟩),fun e=>(nomatch e)⟩
  | false=>exact ih
mutual
theorem kG:∀ (d:PyData),hkB d=true->noD d=true
 | .int _,_=>rfl
 | .str _,_=>rfl
 | .tuple ds,h=>by rw [noD];exact uL ds h
 | .none,h=>by cases h
 | .bool _,h=>by cases h
 | .list _,h=>by cases h
 | .dict _,h=>by cases h
theorem uL:∀ (ds:List PyData),vm ds=true->fK ds=true
 | [],_=>rfl
 | d :: ds,h=>by
  simp only [vm,JL] at h;rw [fK,kG d h.1,uL ds h.2];rfl
end
theorem iY {d:PyData}:hk6 d=true↔hkB d=true/\d.depth<=6:=by simp [hk6]
theorem wb {K:Fg} {F:Addr->Prop} {H:Hp} {d:PyData} {v:V} (h:Vw K F H d v) (hk:hk6 d=true):kyB d=true:=by
 rw [iY] at hk;exact aX.mpr ⟨hk.1,h.lay (kG d hk.1),hk.2⟩
theorem wB {X:Cx} {pins:List (Addr×Obj)} {σ:St} {s:Shared} {F:Addr->Prop} {H:Hp} (I:Inv X pins σ H s):∀ {ds:List (PyData×PyData)} {xs:List (PyData×V×V)},DmP X.K F H ds xs->jY s.heap xs
 | [],xs,h=>by rw [show xs=[] from h];intro x hx;cases hx
 | (k,d) :: ds,xs,h=>by
  obtain ⟨j,v,r,rfl,hk,h0,_,h2⟩:=h;intro x hx;rcases Jo.mp hx with rfl | hx
  ·exact ⟨wb h0.vw hk,fun u ru=>h0.reads I (kG _ (iY.mp hk).1) ru⟩
  ·exact wB I h2 x hx
def FD (K:Fg) (H:Hp) (x y:V) (k:PyData) (a:Addr) (ep:Nat) (xs:List (PyData×V×V)):Prop:=∃ (F:Addr->Prop) (kvs:List (PyData×PyData)),x=.ref a/\H a=some (.dD ep xs)/\DmP K F H kvs xs/\Vw K F H k y/\hk6 k=true
def Dl:PyData->PyData->Option PR
 | .dict kvs,k=>if hk6 k=true then (getD kvs k).map .dat else none
 | _,_=>none
def As (K:Fg):R2:=fun x y H Q=>∃ k a ep xs v,FD K H x y k a ep xs/\qw xs k=some v/\Q v H
def eD:Prm:=Prm.two As Dl fun K F H x y u v pr Q hf hx hy hd q=>by
 unfold Dl at hf;split at hf
 ·split at hf
  ·rename_i kvs _ hk;obtain ⟨d,e,rfl⟩:=Jp.mp hf;obtain ⟨a,rfl,ep,xs,ea,_,r⟩:=hx;obtain ⟨w,ew,dw⟩:=(sM r).1 d e;exact ⟨_,a,ep,xs,w,⟨F,_,rfl,ea,r,hy,hk⟩,ew,q _ H (bf.rf H) dw⟩
  ·cases hf
 ·cases hf
def Fe (neg:Bool) (K:Fg):R2:=fun y x H Q=>∃ k a ep xs,FD K H x y k a ep xs/\Q (.bl (if neg then !(qw xs k).isSome else (qw xs k).isSome)) H
def Dr (neg:Bool):Prm:=Prm.two (Fe neg) (fun k d=>match d with
  | .dict kvs=>if hk6 k=true then some (.dat (.bool (if neg then !(getD kvs k).isSome else (getD kvs k).isSome))) else none
  | _=>none) fun K F H y x v u pr Q hf hy hx hd q=>by
 split at hf
 ·rename_i kvs;split at hf
  ·rename_i hk;cases hf;obtain ⟨a,rfl,ep,xs,ea,_,r⟩:=hx;have g:=sM (k:=y) r;refine ⟨_,a,ep,xs,⟨F,kvs,rfl,ea,r,hy,hk⟩,q _ H (bf.rf H) ?_⟩;have e:(qw xs y).isSome=(getD kvs y).isSome:=by
    cases z:getD kvs y with
    | none=>rw [g.2 z];rfl
    | some d=>obtain ⟨w,ew,_⟩:=g.1 d z;rw [ew];rfl
   rw [e];cases neg <;> rfl
  ·cases hf
 ·cases hf
section
variable {X:Cx} {a b o i e value:Expr} {pos pos':Pos} {ta tb td ty tv:TE}
theorem lZ (hu:X.A.units+64 < cLine) (ho:JE X a ta) (hi:JE X b tb) (hs:Hj b):JE X (.Subscript a b pos) (tOp (fun x y=>eD.r X.K [x,y]) ta tb):=⟨by
 intro pins s σ H Q I h;refine yH PySem.F.slot_dict_getitem.lookup hs (thn (ho.h pins s σ H _ I h) fun u s1 ⟨x,H1,I1,rx,q1⟩=>thn (hi.h pins s1 σ H1 _ I1 q1) fun iv s2 ⟨y,H2,I2,ry,k,p,ep,xs,v,⟨F,kvs,ex,ea,r,hk,hk6'⟩,gv,q2⟩=>?_);subst ex;obtain rfl:u=Value.ref p:=rx;obtain ⟨as,rk⟩:=hk.reads I2 (kG _ (iY.mp hk6').1) ry
 exact ⟨(lz I2 ea).1,C9 (by omega) I2 ea (wB I2 r) rk (wb hk hk6') gv fun t w' rw'=>⟨v,H2,I2.tok t,rw',q2⟩⟩⟩
theorem uD (hu:X.A.units+64 < cLine) (hi:PE X i ty) (ho:PE X o td):PC X .NotIn i o (tOp (fun x y=>(Dr true).r X.K [x,y]) ty td):=by
 intro pins s σ H Q I h;refine thn (hi pins s σ H _ I h) fun iv s1 ⟨y,H1,I1,ry,q1⟩=>thn (ho pins s1 σ H1 _ I1 q1) fun u s2 ⟨x,H2,I2,rx,k,p,ep,xs,⟨F,kvs,ex,ea,r,hk,hk6'⟩,q2⟩=>?_;subst ex;obtain rfl:u=Value.ref p:=rx;obtain ⟨as,rk⟩:=hk.reads I2 (kG _ (iY.mp hk6').1) ry;refine IH (m:=contains (.ref p) iv) (FJ (by omega) I2 ea (wB I2 r) rk (wb hk hk6') fun t=>?_);exact IQ ⟨.bl _,H2,I2.tok t,rfl,q2⟩
theorem wy (hu:X.A.units+64 < cLine) (ha:JE X a ta) (hb:JE X b tb) (hm:behindInMarks .NotIn b=false):JT X (.Compare a [.NotIn] [b] pos) (tB (tOp (fun x y=>(Dr true).r X.K [x,y]) ta tb)):=⟨C7 (uD hu ha.h hb.h) hm⟩
theorem BY:JE X (.Dict [] [] pos) pj:=⟨wR⟩
theorem AE {keys:List (Option Expr)} {values:List Expr} {trs:List (TE×TE)} (h:JP X pos keys values trs) (hall:keys.all (·.isSome)=true) (hl:keys.length=values.length) (h0:keys≠[]) (h15:keys.length<=15):JE X (.Dict keys values pos) (pE trs):=⟨wF h.h hall hl h0 h15⟩
end
theorem xy {K:Fg} {F:Addr->Prop} {H:Hp}:∀ {ds:List (PyData×PyData)} {xs:List (PyData×V×V)},DmP K F H ds xs->xs.length=ds.length
 | [],xs,h=>by rw [show xs=[] from h];rfl
 | (k,d) :: ds,xs,h=>by obtain ⟨j,v,r,rfl,_,_,_,h2⟩:=h;rw [Jk,Jk,xy h2]
theorem Ec {K:Fg} {F:Addr->Prop} {H:Hp} {d:PyData} {v:V} (h:Vw K F H d v) (hk:hk6 d=true):Dm K F H d v:=by
 cases d with
 | list ds=>cases hk
 | dict ds=>cases hk
 | _=>exact h
def nM:xR where
 r:=fun K o y x H Q=>∃ k a ep xs,FD K H o y k a ep xs/\xs.length < sizeLine/\∀ ep',Q (upd H a (.dD ep' (pP xs k y x)))
 f:=fun d k x=>match d with
  | .dict kvs=>if hk6 k=true/\kvs.length < sizeLine then some (.dict (putD kvs k x)) else none
  | _=>none
 ok:=fun K F H d a k x vk vx d' Q hf ha ht hk hx q=>by
  split at hf
  ·split at hf
   ·rename_i kvs h;cases hf;obtain ⟨ep,xs,ea,z,r⟩:=ht;have hlen:xs.length < sizeLine:=by rw [xy r];exact h.2
    refine ⟨k,a,ep,xs,⟨F,kvs,rfl,ea,r,hk,h.1⟩,hlen,fun ep'=>q _ (fun b o n e=>by rw [ay n];exact e) ?_⟩;have p:Pr F H (upd H a (.dD ep' (pP xs k vk vx))):=fun b o e n=>by
     by_cases y:b=a
     ·subst y;rcases n with n | n
      ·exact absurd ha n
      ·rw [ea] at e;cases e;cases n
     ·rw [ay y];exact e
    exact ⟨_,_,aF,by have:=pO (xs:=xs) (k:=k) (j:=vk) (v:=vx);omega,(xc r h.1 (Ec hk h.1) hx).pr p fun _ z=>z⟩
   ·cases hf
  ·cases hf
def qm (K:Fg) (td ty tv:TE):TS:=fun D σ H=>tv σ H fun v H1=>td σ H1 fun x H2=>ty σ H2 fun y H3=>nM.r K x y v H3 (D.nx σ)
theorem se {X:Cx} {o i value:Expr} {pos pos':Pos} {td ty tv:TE} (hu:X.A.units+64 < cLine) (ho:JE X o td) (hi:JE X i ty) (hv:JE X value tv) (hs:swapsWith value (some (.Subscript o i pos')) pos.line X.env=pure false) :
  JS X (.Assign [.Subscript o i pos'] value pos) (qm X.K td ty tv):=⟨by
 intro pins s σ H D I h;refine wpAny_Assign_Subscript (thn (hv.h pins s σ H _ I h) fun r s1 ⟨v,H1,I1,rv,q1⟩=>thn (ho.h pins s1 σ H1 _ I1 q1) fun u s2 ⟨x,H2,I2,rx,q2⟩=>thn (hi.h pins s2 σ H2 _ I2 q2) fun iv s3 ⟨y,H3,I3,ry,k,p,ep,xs,⟨F,kvs,ex,ea,r,hk,hk6'⟩,hl,q3⟩=>?_) hs;subst ex;obtain rfl:u=Value.ref p:=rx;obtain ⟨as,rk⟩:=hk.reads I3 (kG _ (iY.mp hk6').1) ry
 exact GV (by omega) I3 ea (wB I3 r) rk (wb hk hk6') ry rv hl fun ep' s4 I4=>⟨σ,_,I4,q3 ep'⟩⟩
theorem Bp {F:Addr->Prop} {H:Hp} {a:Addr} {o o':HO} (ha:F a) (e:H a=some o') (w:Wr o'=true):Pr F H (upd H a o):=fun b u q n=>by
 by_cases y:b=a
 ·subst y;rcases n with n | n
  ·exact absurd ha n
  ·rw [e] at q;cases q;rw [n] at w;cases w
 ·rw [ay y];exact q
theorem yd {K:Fg} {F:Addr->Prop} {H:Hp} {d:PyData} {a:Addr} (h:isL d=true) (t:Top K F H d a):tyV K "list" (.ref a) H:=by
 cases d with
 | list ds=>obtain ⟨xs,e,_⟩:=t;exact .inl ⟨rfl,xs,.inl (.inl e)⟩
 | _=>cases h
def Ak:Mtr where
 T := "list"
 r:=fun _=>rD
 ty:=isL
 f:=fun d as=>match d,as with
  | .list xs,[(true,x)]=>if xs.length < sizeLine then some (.list (xs++[x]),.none) else none
  | _,_=>none
 BP:=fun K F H d a h t=>yd h t
 ok:=fun K F H d a as vs d' x Q hf ha ht hv q=>by
  split at hf
  ·split at hf
   ·rename_i hl;cases hf;obtain ⟨v,r,rfl,hv,rfl⟩:=hv;obtain ⟨xs,ea,z,rx⟩:=ht;refine ⟨a,xs,v,rfl,rfl,ea,by rw [rx.len];exact hl,q _ _ (fun b o n e=>by rw [ay n];exact e) ⟨_,aF,by rw [IJ,rx.len];simp;omega,(rx.snoc hv).pr (Bp ha ea rfl) fun _ z=>z⟩ rfl⟩
   ·cases hf
  ·cases hf
def Hr:Mtr where
 T := "list"
 r:=fun _=>x4
 ty:=isL
 f:=fun d as=>match d,as with | .list xs,[]=>some (.list [],.none) | _,_=>none
 BP:=fun K F H d a h t=>yd h t
 ok:=fun K F H d a as vs d' x Q hf ha ht hv q=>by
  split at hf
  ·cases hf;obtain ⟨xs,ea,z,rx⟩:=ht;rw [show vs=[] from hv];exact ⟨a,xs,rfl,rfl,ea,q _ _ (fun b o n e=>by rw [ay n];exact e) ⟨_,aF,JZ _,rfl⟩ rfl⟩
  ·cases hf
theorem DmL.rev {K:Fg} {F:Addr->Prop} {H:Hp}:∀ {ds:List PyData} {xs:List V},DmL K F H ds xs->DmL K F H ds.reverse xs.reverse
 | [],xs,h=>by rw [show xs=[] from h];rfl
 | d :: ds,xs,h=>by
  obtain ⟨v,r,rfl,h1,h2⟩:=h;rw [List.reverse_cons,List.reverse_cons];exact (DmL.rev h2).snoc h1
theorem xY {K:Fg} {F:Addr->Prop} {H:Hp}:∀ {ns:List Int},DmL K F H (ns.map .int) (ns.map .int)
 | []=>rfl
 | n :: ns=>⟨_,_,rfl,rfl,xY⟩
theorem Cz {f:Fn} {K:Fg} {H:Hp} {a:Addr} {ns:List Int} (hm:f.ms=[.dat]) (hl:ns.length<=63) (hS:SqL K H a (ns.map V.int)) (hF:f.F [.list (ns.map .int)]=some (.dat (.bool true),[])):fo f K [.ref a] H (fun v _=>v=.bl true) fun _ _ _=>False:=by
 refine ⟨fun _=>False,[.list (ns.map .int)],[],.dat (.bool true),[],hF,?_,fun _ h=>absurd h id,fun v' H' _ r=>r.1⟩;rw [hm];refine ⟨⟨a,ns.map .int,rfl,?_,?_,xY⟩,rfl⟩
 ·rcases hS with hS | hS
  ·exact .inl ⟨id,hS⟩
  ·exact .inr hS
 ·rw [IK];exact Ju hl (by decide)
end L2
end
section
namespace L2
open PySem PySem.Spec PyProof.Rows
section
variable {X:Cx} {pos:Pos} {s:Stmt}
theorem xF:JS X s p8:=⟨fun _ _ _ _ _ _ h=>absurd h id⟩
end
end L2
namespace L2
open PySem PySem.Spec PyProof.Rows
end L2
end
section
namespace L2
open PySem PySem.Spec PyProof.Rows
def z4 (d:PyData):Bool:=noD d&&decide (d.depth<=32)
def Ad (ds:List PyData) (x:PyData):Bool:=ds.any fun d=>PyData.eqv d x
def ngB (neg b:Bool):Bool:=if neg then !b else b
def HV (neg:Bool) (K:Fg):R2:=rOr (fun x y H Q=>∃ i j,x=.str i/\y=.str j/\Q (.bl (ngB neg (!(Builtin.Str.occurrences j i 0 j.length 1).isEmpty))) H)
 fun x y H Q=>∃ (p:Addr) (xs:List V) (F:Addr->Prop) (d:PyData) (ds:List PyData),y=.ref p/\(SqL K H p xs\/SqT K H p xs)/\Vw K F H d x/\DmL K F H ds xs/\z4 d=true/\fK ds=true/\Q (.bl (ngB neg (Ad ds d))) H
def inD (neg:Bool):PyData->PyData->Option PR
 | .str i,.str j=>some (.dat (.bool (ngB neg (!(Builtin.Str.occurrences j i 0 j.length 1).isEmpty))))
 | x,.list ds=>if z4 x=true/\fK ds=true then some (.dat (.bool (ngB neg (Ad ds x)))) else none
 | x,.tuple ds=>if z4 x=true/\fK ds=true then some (.dat (.bool (ngB neg (Ad ds x)))) else none
 | _,_=>none
def Hc (neg:Bool):Prm:=Prm.two (HV neg) (inD neg) fun K F H x y u v pr Q hf hx hy hd q=>by
 unfold inD at hf;split at hf
 ·cases hf;exact .inl ⟨_,_,(vStr hx).1,(vStr hy).1,q _ H (bf.rf H) rfl⟩
 ·split at hf
  ·rename_i h;cases hf;obtain ⟨a,us,rfl,s1,z1,d1⟩:=pe hy;exact .inr ⟨a,us,F,_,_,rfl,.inl s1,hx,d1,h.1,h.2,q _ H (bf.rf H) rfl⟩
  ·cases hf
 ·split at hf
  ·rename_i h;cases hf;obtain ⟨a,us,rfl,s1,z1,d1⟩:=vn hy;exact .inr ⟨a,us,F,_,_,rfl,.inr s1,hx,d1,h.1,h.2,q _ H (bf.rf H) rfl⟩
  ·cases hf
 ·cases hf
abbrev inP:Prm:=Hc false
abbrev pI:Prm:=Hc true
open Classical in
noncomputable def eqR (h:Heap) (x:PyData) (u:Value):Bool:=if q:∃ d as,Reads h u d as then PyData.eqv (Classical.choose q) x else false
theorem xX {h:Heap} {x d:PyData} {u:Value} {as:List Addr} (r:Reads h u d as):eqR h x u=PyData.eqv d x:=by
 have q:∃ d as,Reads h u d as:=⟨d,as,r⟩;unfold eqR;rw [dif_pos q];obtain ⟨bs,r2⟩:=Classical.choose_spec q;rw [(PySem.Reads.unique r _ _ r2).1]
section
variable {X:Cx} {pins:List (Addr×Obj)} {σ:St} {s:Shared} {H:Hp} {F:Addr->Prop}
theorem jw (I:Inv X pins σ H s) (x:PyData):∀ {ds:List PyData} {xs:List V} {us:List Value},DmL X.K F H ds xs->fK ds=true->Vals xs us->us.any (eqR s.heap x)=Ad ds x
 | [],xs,us,h,_,r=>by rw [show xs=[] from h] at r;cases r;rfl
 | d :: ds,xs,us,h,n,r=>by
  obtain ⟨v,t,rfl,h1,h2⟩:=h;have n':noD d=true/\fK ds=true:=by simpa [fK] using n
  cases r with
  | cons r1 r2 =>
   obtain ⟨as,ra⟩:=h1.reads I n'.1 r1;rw [Ld,xX ra,jw I x h2 n'.2 r2];rfl
theorem jx (I:Inv X pins σ H s) {A:Around} {x:PyData} {b:Value} {bs:List Addr} (rb:Reads s.heap b x bs) (hb:x.canLay0=true) (hu:A.units+x.depth < cLine):∀ {ds:List PyData} {xs:List V} {us:List Value},DmL X.K F H ds xs->fK ds=true->Vals xs us->∀ u∈us,SeqAt.EqAt A s u b (eqR s.heap x u)
 | [],xs,us,h,_,r=>by rw [show xs=[] from h] at r;cases r;intro u hu;cases hu
 | d :: ds,xs,us,h,n,r=>by
  obtain ⟨v,t,rfl,h1,h2⟩:=h;have n':noD d=true/\fK ds=true:=by simpa [fK] using n
  cases r with
  | cons r1 r2 =>
   intro u hm;rcases Jo.mp hm with rfl | hm
   ·obtain ⟨as,ra⟩:=h1.reads I n'.1 r1;rw [xX ra];exact SeqAt.eqAt_reads d x A s _ b as bs ra rb (h1.lay n'.1) hb (by omega)
   ·exact jx I rb hb hu h2 n'.2 r2 u hm
end
theorem Hq {X:Cx} (hu:X.A.units+64 < cLine):OpR X (compareOp .In) (fun x y=>inP.r X.K [x,y]):=by
 refine orR BF ?_;intro pins s σ H x y v u Q I rx ry h;obtain ⟨p,xs,F,d,ds,rfl,hq,hd,hs,o1,o2,q⟩:=h;have o1':noD d=true/\d.depth<=32:=by simpa [z4] using o1
 cases ry;obtain ⟨bs,rb⟩:=hd.reads I o1'.1 rx;rcases hq with hq | hq
 ·obtain ⟨its,r,pl,hz⟩:=I.list hq;refine SeqAt.in_listAt (eqR s.heap d) pl.isList (fun w hw=>jx I rb (hd.lay o1'.1) (by have:X.A.in1.units=X.A.units+1:=rfl;omega) hs o2 r w (by simpa using hw)) ⟨.bl _,H,I,rfl,?_⟩;rw [show its.toArray.any (eqR s.heap d)=its.any (eqR s.heap d) by simp,jw I d hs o2 r];exact q
 ·obtain ⟨its,r,pl,hz⟩:=I.tuple hq;refine SeqAt.in_tupleAt (eqR s.heap d) pl (fun w hw=>jx I rb (hd.lay o1'.1) (by have:X.A.in1.units=X.A.units+1:=rfl;omega) hs o2 r w (by simpa using hw)) ⟨.bl _,H,I,rfl,?_⟩;rw [show its.toArray.any (eqR s.heap d)=its.any (eqR s.heap d) by simp,jw I d hs o2 r];exact q
theorem vd {X:Cx} (hu:X.A.units+64 < cLine):OpR X (compareOp .NotIn) (fun x y=>pI.r X.K [x,y]):=by
 refine orR rM ?_;intro pins s σ H x y v u Q I rx ry h;obtain ⟨p,xs,F,d,ds,rfl,hq,hd,hs,o1,o2,q⟩:=h;have o1':noD d=true/\d.depth<=32:=by simpa [z4] using o1
 cases ry;obtain ⟨bs,rb⟩:=hd.reads I o1'.1 rx;rcases hq with hq | hq
 ·obtain ⟨its,r,pl,hz⟩:=I.list hq;refine SeqAt.notIn_listAt (eqR s.heap d) pl.isList (fun w hw=>jx I rb (hd.lay o1'.1) (by have:X.A.in1.units=X.A.units+1:=rfl;omega) hs o2 r w (by simpa using hw)) ⟨.bl _,H,I,rfl,?_⟩;rw [show its.toArray.any (eqR s.heap d)=its.any (eqR s.heap d) by simp,jw I d hs o2 r];exact q
 ·obtain ⟨its,r,pl,hz⟩:=I.tuple hq;refine SeqAt.notIn_tupleAt (eqR s.heap d) pl (fun w hw=>jx I rb (hd.lay o1'.1) (by have:X.A.in1.units=X.A.units+1:=rfl;omega) hs o2 r w (by simpa using hw)) ⟨.bl _,H,I,rfl,?_⟩;rw [show its.toArray.any (eqR s.heap d)=its.any (eqR s.heap d) by simp,jw I d hs o2 r];exact q
end L2
end
section
namespace L2
open PySem PySem.Spec PyProof.Rows
def Em (ww:World):Bool:=ww.params.followText "set-order"
structure HW (ww:World) (tb:SetTable) (n:Nat):Prop where
 fit:tb.fits n=true
 led:tb.led=!Em ww
 pln:n≠0->tb.plain=false
def GA (pr:Program) (ww:World) (h:Heap) (a:Addr) (ss:List Str):Prop :=
 ∃ ob es ep tb,h.get? a=some ob/\ob.ExactSet/\ob.data=.set es ep tb/\ElemsOf (strKind pr ww) es.toList/\(∃ zs,StrsAre (es.toList.map (·.2)) zs/\zs.Perm ss)/\es.size < scanBound/\HW ww tb es.size
section
variable {pr:Program} {ww:World} {AA:Around} {EE:Value->Shared->Prop} {st:Shared}
end
end L2
end
section
namespace L2
open PySem PySem.Spec PyProof.Rows
section
variable {pr:Program} {ww:World} {AA:Around} {RR:Result->Shared->Prop} {IT:Addr} {fp wr:List Addr} {GG:Array GenState->Array GenState->Prop} {n:Nat} {PP:Nat->Value->Prop} {SS:Nat->Shared->Prop}
end
section
variable {pr:Program} {ww:World} {AA:Around} {EE:Value->Shared->Prop} {st:Shared}
end
end L2
end
section
namespace L2
open PySem PySem.Spec PyProof.Rows
namespace SF
end SF
section
variable {pr:Program} {ww:World} {AA:Around} {EE:Value->Shared->Prop} {st:Shared}
end
end L2
end
section
namespace L2
open PySem PySem.Spec PyProof.Rows
namespace SF
end SF
section
variable {pr:Program} {ww:World} {AA:Around} {EE:Value->Shared->Prop} {st:Shared}
end
end L2
end
section
namespace L2
open PySem PySem.Spec PyProof.Rows
section
variable {pr:Program} {ww:World} {AA:Around} {EE:Value->Shared->Prop} {st:Shared}
end
end L2
end
section
namespace L2
open PySem PySem.Spec PyProof.Rows
def HC (X:Cx) (p:Addr) (ss:List Str):HO:=.ext fun h=>GA X.prog X.w h p ss
end L2
end
section
namespace L2
open PySem PySem.Spec PyProof.Rows
section
variable {X:Cx} {pins:List (Addr×Obj)} {σ:St} {H:Hp} {s:Shared}
end
end L2
end
section
namespace L2
open PySem PySem.Spec PyProof.Rows
end L2
end
section
namespace L2
open PySem PySem.Spec PyProof.Rows
section
variable {pr:Program} {ww:World} {AA:Around} {EE:Value->Shared->Prop} {st:Shared}
end
section
variable {X:Cx} {o e:Expr} {apos cpos:Pos} {te:TE} {a:Addr} {l:List (Str×Cst)}
end
def A7:Prm where
 r:=fun _ vs H Q=>match vs with | []=>∀ p,H p=none->Q (.ref p) (upd H p (.dD 0 [])) | _=>False
 f:=fun ds=>match ds with | []=>some (.frs (.dict [])) | _=>none
 ok:=fun K F H ds vs pr Q hf hv hd q=>by
  match ds,hf with
  | [],hf =>
   cases hf;rw [show vs=[] from hv];exact fun p hp=>q _ _ (bf.nw _ hp) ⟨p,rfl,hp,0,[],aF,JZ _,rfl⟩
end L2
end
section
namespace L2
open PySem PySem.Spec PyProof.Rows
theorem rp {X:Cx} {e:Expr} {te:TE} {T:String} {p p2 pos:Pos} (hg:Gl X "isinstance") (hm:X.mg "isinstance" = none) (ha:JE X e te) (hs:PySem.W.isStarred e=false) (hb:JE X (.Name (Str.ofString T) p2) (tC (.ty T))):JE X (.Call (.Name "isinstance" p) [e,.Name (Str.ofString T) p2] [] pos) (tCB ((iD T).r X.K) (ab te aB)) :=
 ⟨(eB yY hg hm (by decide +kernel) (eA ha (eA hb aR rfl) hs) hs rfl (by decide) rfl).h⟩
end L2
end
section
namespace HT
open PySem PySem.Spec PyProof.Rows
section
variable {prog:Program} {w:World} {A:Around} {E:Value->Shared->Prop} {s:Shared}
end
end HT
namespace L2
open PySem PySem.Spec PyProof.Rows
end L2
end
section
namespace L2
open PySem PySem.Spec PyProof.Rows
end L2
end
section
namespace L2
open PySem
structure Kn where
 nx:En->Prop
 rt:RV->En->Prop
 bk:En->Prop
 ct:En->Prop
def Kn.at (E:Kn):Out->Prop | .nx e=>E.nx e | .rt r e=>E.rt r e | .bk e=>E.bk e | .ct e=>E.ct e
def WS (gd:List PyData) (s:XS) (env:En) (E:Kn):Prop:=∃ o,dS gd s env=some o/\E.at o
def WE (gd:List PyData) (e:XE) (env:En) (Q:RV->En->Prop):Prop:=∃ r e',dE gd e env=some (r,e')/\Q r e'
def WA (gd:List PyData) (e:XA) (env:En) (Q:List AV->En->Prop):Prop:=∃ r e',dA gd e env=some (r,e')/\Q r e'
def WT (gd:List PyData) (e:XT) (env:En) (Q:Bool->En->Prop):Prop:=∃ r e',dT gd e env=some (r,e')/\Q r e'
def WI (gd:List PyData) (e:XI) (env:En) (Q:List PyData->Option Nat->En->Prop):Prop:=∃ ds lk e',dI gd e env=some (ds,lk,e')/\Q ds lk e'
def WF (f:Fn) (ds:List PyData) (Q:PR->List PyData->Prop):Prop:=∃ pr outs,f.F ds=some (pr,outs)/\Q pr outs
def WPr (p:Prm) (avs:List AV) (e:En) (Q:RV->En->Prop):Prop:=∃ ds pr,bG e avs=some ds/\p.f ds=some pr/\Q pr.rv e
def Ce (i:Nat) (r:RV) (e:En) (N:En->Prop):Prop:=∃ d,r.av=.dat d/\free e i=true/\N (e.set i (.dat d))
def sU (i:Nat) (r:RV) (e:En) (N:En->Prop):Prop:=∃ d,r=.frs d/\free e i=true/\N (e.set i (.own d))
def Ek (b:PyData->En->Option Out) (ds:List PyData) (lk:Option Nat) (e1:En) (E:Kn):Prop:=∃ o,forL b ds (cu e1 lk)=some o/\E.at (o.map (lkd e1 lk) (aM e1 lk))
def qU (f:Fn) (avs:List AV) (e:En) (Q:RV->En->Prop):Prop:=∃ rv e',wH f avs e=some (rv,e')/\Q rv e'
def DK (ms:List PM) (QF:PR->List PyData->Prop) (r:RV) (e:En):Prop:=∃ pr outs,r.pr=some pr/\i8 ms e=some outs/\QF pr outs
def vI (ms:List PM) (QF:PR->List PyData->Prop) (e:En):Prop:=∃ outs,i8 ms e=some outs/\QF (.dat .none) outs
def Cn (m:xR) (i:Nat) (v:PyData) (rk:RV) (e2:En) (N:En->Prop):Prop:=∃ dk d d',rk.view e2=some dk/\br e2 i=some d/\m.f d dk v=some d'/\N (iG e2 i d')
def DJ (gd:List PyData) (m:xR) (i:Nat) (a:XE) (r:RV) (e:En) (N:En->Prop):Prop:=∃ v,r.av=.dat v/\(br e i).isSome=true/\WE gd a e fun rk e2=>Cn m i v rk e2 N
def DW (m:Mtd) (r:RV) (avs:List AV) (e2:En) (Q:RV->En->Prop):Prop:=∃ d ds pr,r.view e2=some d/\bG e2 avs=some ds/\m.f d ds=some pr/\Q pr.rv e2
def DI (gd:List PyData) (m:Mtd) (as:XA) (r:RV) (e:En) (Q:RV->En->Prop):Prop:=∃ d0,r.view e=some d0/\m.ty d0=true/\WA gd as e fun avs e2=>DW m r avs e2 Q
def WMr (m:Mtr) (i:Nat) (avs:List AV) (e2:En) (Q:RV->En->Prop):Prop:=∃ d ds d' x,br e2 i=some d/\fH e2 avs=some ds/\m.f d ds=some (d',x)/\Q (.dat x) (iG e2 i d')
def WTp (mk:List PyData->RV) (avs:List AV) (e:En) (Q:RV->En->Prop):Prop:=∃ ds,mf avs=some ds/\ds.length<=sizeLine/\Q (mk ds) e
def DM (is:List Nat) (r:RV) (e:En) (N:En->Prop):Prop:=∃ ds e2,r.av=.dat (.tuple ds)/\fU e is ds=some e2/\N e2
section
variable {gd:List PyData} {env e1:En} {E:Kn} {Q:RV->En->Prop} {QA:List AV->En->Prop} {QT:Bool->En->Prop} {QI:List PyData->Option Nat->En->Prop} {i:Nat} {d:PyData} {a b c:XE} {as:XA} {s t:XS} {p:Prm} {f:Fn} {x y:XT}
theorem gN {ms:List PM} {n:Nat} {ds:List PyData} {QF:PR->List PyData->Prop} (hl:ds.length=ms.length) (h:WS gd s (ax ms ds n) ⟨vI ms QF,DK ms QF,fun _=>False,fun _=>False⟩):WF (gc gd ms n s) ds QF:=by
 obtain ⟨o,ho,q⟩:=h;unfold WF gc;simp only;rw [IX hl,ho];cases o with
 | nx e=>obtain ⟨outs,h1,h2⟩:=q;simp only [h1];exact ⟨_,_,rfl,h2⟩
 | rt r e=>obtain ⟨pr,outs,h1,h2,h3⟩:=q;simp only [h1,h2];exact ⟨_,_,rfl,h3⟩
 | bk e=>exact absurd q id
 | ct e=>exact absurd q id
theorem B6 (h:WS gd s env { E with nx:=fun e=>WS gd t e E }):WS gd (.seq s t) env E:=by
 obtain ⟨o,ho,q⟩:=h;unfold WS;simp only [dS,ho];cases o with
 | nx e=>exact q
 | rt r e=>exact ⟨_,rfl,q⟩
 | bk e=>exact ⟨_,rfl,q⟩
 | ct e=>exact ⟨_,rfl,q⟩
theorem xn (h:∀ N:En->Prop,N=(fun e=>WS gd t e E)->WS gd s env { E with nx:=N }):WS gd (.seq s t) env E:=B6 (h _ rfl)
theorem vj {e:En} {x y:AV} {i:Int} {xs:List PyData} (h1:bG e [x,y]=some [.list xs,.int i]) (h:atI xs i=some d) (q:Q (.dat d) e):WPr ixP [x,y] e Q:=⟨_,.dat d,h1,by show (atI xs i).map PR.dat=_;rw [h];rfl,q⟩
theorem tj {e:En} {x y:AV} {i:Int} {xs:List PyData} (h1:bG e [x,y]=some [.tuple xs,.int i]) (h:atI xs i=some d) (q:Q (.dat d) e):WPr ixP [x,y] e Q:=⟨_,.dat d,h1,by show (atI xs i).map PR.dat=_;rw [h];rfl,q⟩
theorem zu {e:En} {x y:AV} {i:Int} {z:Str} {c:Nat} (h1:bG e [x,y]=some [.str z,.int i]) (h:atI z.cps.toList i=some c) (q:Q (.dat (.str ⟨#[c]⟩)) e):WPr ixP [x,y] e Q:=⟨_,.dat (.str ⟨#[c]⟩),h1,by show (atI z.cps.toList i).map _=_;rw [h];rfl,q⟩
theorem Bf (h:E.nx env):WS gd .skip env E:=⟨_,rfl,h⟩
theorem Gy (h:E.bk env):WS gd .brk env E:=⟨_,rfl,h⟩
theorem Fq (h:E.ct env):WS gd .cnt env E:=⟨_,rfl,h⟩
theorem BO (h:E.rt (.dat .none) env):WS gd .DH env E:=⟨_,rfl,h⟩
theorem Bm (h:WE gd a env fun r e=>Ce i r e E.nx):WS gd (.fO i a) env E:=by
 obtain ⟨r,e',h1,d,h2,h3,h4⟩:=h;unfold WS;simp only [dS,h1,h2];rw [IX h3];exact ⟨_,rfl,h4⟩
theorem C1 (h:WE gd a env fun r e=>sU i r e E.nx):WS gd (.ve i a) env E:=by
 obtain ⟨r,e',h1,d,rfl,h3,h4⟩:=h;unfold WS;simp only [dS,h1];rw [IX h3];exact ⟨_,rfl,h4⟩
theorem Cq {is:List Nat} (h:WE gd a env fun r e=>DM is r e E.nx):WS gd (.C5 is a) env E:=by
 obtain ⟨r,e',h1,ds,e2,h2,h3,h4⟩:=h;unfold WS;simp only [dS,h1,h2,h3];exact ⟨_,rfl,h4⟩
theorem CY (h:WE gd a env fun _ e=>E.nx e):WS gd (.drop a) env E:=by
 obtain ⟨r,e',h1,h2⟩:=h;unfold WS;simp only [dS,h1];exact ⟨_,rfl,h2⟩
theorem Es (h:WE gd a env E.rt):WS gd (.ret a) env E:=by
 obtain ⟨r,e',h1,h2⟩:=h;unfold WS;simp only [dS,h1];exact ⟨_,rfl,h2⟩
theorem GP (h:WT gd x env fun b e=>if b=true then WS gd s e E else WS gd t e E):WS gd (.ifs x s t) env E:=by
 obtain ⟨b,e',h1,h2⟩:=h;unfold WS;simp only [dS,h1];cases b with
 | true=>exact h2
 | false=>exact h2
theorem HK {it:XI} (h:WI gd it env fun ds lk e=>Ek (ka i (dS gd s)) ds lk e E):WS gd (.fr i it s) env E:=by
 obtain ⟨ds,lk,e',h1,o,h2,h3⟩:=h;unfold WS;simp only [dS,h1,h2];exact ⟨_,rfl,h3⟩
theorem EB {is:List Nat} {it:XI} (h:WI gd it env fun ds lk e=>Ek (jq is (dS gd s)) ds lk e E):WS gd (.frT is it s) env E:=by
 obtain ⟨ds,lk,e',h1,o,h2,h3⟩:=h;unfold WS;simp only [dS,h1,h2];exact ⟨_,rfl,h3⟩
theorem EZ {m:xR} (h:WE gd b env fun r e=>DJ gd m i a r e E.nx):WS gd (.sto m i a b) env E:=by
 obtain ⟨r,e',h1,v,h2,h3,rk,e2,h4,dk,d,d',h5,h6,h7,h8⟩:=h;obtain ⟨d0,hd0⟩:=Option.isSome_iff_exists.mp h3;unfold WS;simp only [dS,h1,h2,hd0,h4,h5,h6,h7];exact ⟨_,rfl,h8⟩
theorem HX {n:Nat} (Inv:Nat->En->Prop) (m:Nat) (hm:m < n) (h0:Inv m env) (hs:∀ k e,k<=m->Inv k e->WT gd x e fun b e1=>if b=true then WS gd s e1 ⟨fun e2=>∃ j,j < k/\Inv j e2,E.rt,E.nx,fun e2=>∃ j,j < k/\Inv j e2⟩ else E.nx e1):WS gd (.wh n x s) env E:=by
 unfold WS;simp only [dS];induction n generalizing m env with
 | zero=>omega
 | succ n ih =>
  unfold whL;obtain ⟨b,e1,h1,h2⟩:=hs m env (IY _) h0;rw [h1];cases b with
  | false=>exact ⟨_,rfl,h2⟩
  | true =>
   rw [IX rfl] at h2;obtain ⟨o,h3,h4⟩:=h2;simp only [h3];have step:∀ e2,(∃ j,j < m/\Inv j e2)->∃ o,whL (dT gd x) (dS gd s) n e2=some o/\E.at o:=fun e2 ⟨j,hj,hi⟩=>ih j (by omega) hi fun k e hk=>hs k e (by omega);cases o with
   | nx e=>exact step e h4
   | ct e=>exact step e h4
   | bk e=>exact ⟨_,rfl,h4⟩
   | rt r e=>exact ⟨_,rfl,h4⟩
theorem w_var (h:env[i]?=some (.dat d)) (q:Q (.dat d) env):WE gd (.var i) env Q:=⟨_,_,by simp only [dE,h],q⟩
theorem C6 (h:env[i]?=some (.own d)) (q:Q (.bor i) env):WE gd (.var i) env Q:=⟨_,_,by simp only [dE,h],q⟩
theorem CW (h:env[i]?=some (.ino d)) (q:Q (.bor i) env):WE gd (.var i) env Q:=⟨_,_,by simp only [dE,h],q⟩
theorem Cm (h:env[i]?=some (.ro d)) (q:Q (.bor i) env):WE gd (.var i) env Q:=⟨_,_,by simp only [dE,h],q⟩
theorem EC (h:env[i]?=some (.own d)) (q:Q (.dat d) (env.set i (.dat d))):WE gd (.mov i) env Q:=⟨_,_,by simp only [dE,h],q⟩
theorem FE (h:env[i]?=some (.own d)) (q:Q (.frs d) (env.set i .un)):WE gd (.tke i) env Q:=⟨_,_,by simp only [dE,h],q⟩
theorem EK {c:Cst} (q:Q (.dat c.d) env):WE gd (.cst c) env Q:=⟨_,_,rfl,q⟩
theorem F8 {g:Nat} (h:gd[g]?=some d) (q:Q (.dat d) env):WE gd (.glb g) env Q:=⟨_,_,by simp only [dE,h],q⟩
theorem Fw (h:WA gd as env fun avs e=>WPr p avs e Q):WE gd (.prm p as) env Q:=by
 obtain ⟨avs,e',h1,ds,pr,h2,h3,h4⟩:=h;exact ⟨_,_,by simp only [dE,h1,h2,h3],h4⟩
theorem BS (h:WA gd as env fun avs e=>qU f avs e Q):WE gd (.call f as) env Q:=by
 obtain ⟨avs,e',h1,rv,e2,h2,h3⟩:=h;exact ⟨_,_,by simp only [dE,h1];exact h2,h3⟩
theorem ar {avs:List AV} {ds:List PyData} {is:List Nat} (h1:jZ e1 f.ms avs=some ds) (h2:dr f.ms avs=is) (h:WF f ds fun pr outs=>ckA is (sh f.ms avs) outs.length=true/\Q pr.rv (d4 e1 is outs)):qU f avs e1 Q:=by
 obtain ⟨pr,outs,h3,h4,h5⟩:=h;subst h2;unfold qU wH;simp only [h1,h3];rw [IX h4];exact ⟨_,_,rfl,h5⟩
theorem FQ {m:Mtd} {o:XE} (h:WE gd o env fun r e=>DI gd m as r e Q):WE gd (.met m o as) env Q:=by
 obtain ⟨r,e',h1,d0,h2,h3,avs,e2,h4,d,ds,pr,h5,h6,h7,h8⟩:=h;exact ⟨_,_,by simp only [dE,h1,h2];rw [IX h3];simp only [h4,h5,h6,h7],h8⟩
theorem FG {m:Mtr} (h0:br env i=some d) (h1:m.ty d=true) (h:WA gd as env fun avs e2=>WMr m i avs e2 Q):WE gd (.mtr m i as) env Q:=by
 obtain ⟨avs,e2,h4,d,ds,d',x,h5,h6,h7,h8⟩:=h;exact ⟨_,_,by simp only [dE,h0];rw [IX h1];simp only [h4,h5,h6,h7],h8⟩
theorem DE (h:WA gd as env fun avs e=>WTp (fun ds=>.dat (.tuple ds)) avs e Q):WE gd (.tup as) env Q:=by
 obtain ⟨avs,e2,h4,ds,h5,h6,h7⟩:=h;exact ⟨_,_,by simp only [dE,h4,h5];rw [IX h6],h7⟩
theorem CS (h:WA gd as env fun avs e=>WTp (fun ds=>.frs (.list ds)) avs e Q):WE gd (.lst as) env Q:=by
 obtain ⟨avs,e2,h4,ds,h5,h6,h7⟩:=h;exact ⟨_,_,by simp only [dE,h4,h5];rw [IX h6],h7⟩
theorem FY (h:WT gd x env fun k e=>if k=true then WE gd a e Q else WE gd b e Q):WE gd (.ifx x a b) env Q:=by
 obtain ⟨k,e',h1,h2⟩:=h;unfold WE;simp only [dE,h1];cases k with
 | true=>exact h2
 | false=>exact h2
theorem Cu (h:WE gd a env fun r e=>∃ k,r=.dat (.bool k)/\if k=true then WE gd b e Q else Q (.dat (.bool false)) e):WE gd (.qp a b) env Q:=by
 obtain ⟨r,e',h1,k,rfl,h2⟩:=h;unfold WE;cases k with
 | true=>simp only [dE,h1];exact h2
 | false=>simp only [dE,h1];exact ⟨_,_,rfl,h2⟩
theorem Gd (h:WE gd a env fun r e=>∃ k,r=.dat (.bool k)/\if k=true then Q (.dat (.bool true)) e else WE gd b e Q):WE gd (.orv a b) env Q:=by
 obtain ⟨r,e',h1,k,rfl,h2⟩:=h;unfold WE;cases k with
 | true=>simp only [dE,h1];exact ⟨_,_,rfl,h2⟩
 | false=>simp only [dE,h1];exact h2
theorem Bd (h:WE gd a env fun r e=>∃ k,r=.dat (.bool k)/\Q (.dat (.bool (!k))) e):WE gd (.Ah a) env Q:=by
 obtain ⟨r,e',h1,k,rfl,h2⟩:=h;exact ⟨_,_,by simp only [dE,h1],h2⟩
theorem Ez {p':Prm} (h:WE gd a env fun r e=>WE gd b e fun r2 e2=>∃ x y k,r.av=.dat x/\r2.av=.dat y/\p.f [x,y]=some (.dat (.bool k))/\if k=true then WE gd c e2 fun r3 e3=>∃ z pr,r3.av=.dat z/\p'.f [y,z]=some pr/\Q pr.rv e3 else Q (.dat (.bool false)) e2):WE gd (.chn p p' a b c) env Q:=by
 obtain ⟨r,e',h1,r2,e2,h2,x,y,k,h3,h4,h5,h6⟩:=h;unfold WE;cases k with
 | true =>
  rw [IX rfl] at h6;obtain ⟨r3,e3,h7,z,pr,h8,h9,h10⟩:=h6;simp only [dE,h1,h2,h3,h4,h5,h7,h8,h9];exact ⟨_,_,rfl,h10⟩
 | false =>
  rw [IV (by decide)] at h6;simp only [dE,h1,h2,h3,h4,h5];exact ⟨_,_,rfl,h6⟩
theorem Ft {g:Int->Int->Prm} (h:WE gd a env fun r e=>WE gd b e fun r2 e2=>∃ i,r2=.dat (.int i)/\WE gd c e2 fun r3 e3=>∃ j,r3=.dat (.int j)/\∃ d pr,r.view e3=some d/\(g i j).f [d]=some pr/\Q pr.rv e3):WE gd (.sl2 g a b c) env Q:=by
 obtain ⟨r,e',h1,r2,e2,h2,i,rfl,r3,e3,h3,j,rfl,d,pr,h4,h5,h6⟩:=h;exact ⟨_,_,by simp only [dE,h1,h2,h3,h4,h5],h6⟩
def Ee (st:PyData->En->Option (Option PyData×En)) (js:List Nat) (ds:List PyData) (lk:Option Nat) (e1:En) (Q:RV->En->Prop):Prop :=
 ∃ ys ec,vo st ds (fu e1 lk js)=some (ys,ec)/\Q (.frs (.list ys)) (bp e1 js ec)
theorem EN {js:List Nat} {it:XI} (hn:yx js=true) (h:WI gd it env fun ds lk e1=>Ee (jr (dT gd x) (dE gd a)) js ds lk e1 Q):WE gd (.cmp js it x a) env Q:=by
 obtain ⟨ds,lk,e1,h1,ys,ec,h2,h3⟩:=h;refine ⟨_,_,?_,h3⟩;simp only [dE,h1];rw [IX (iV hn),h2]
theorem Bl {n:List Str} {js:List Nat} {it:XI} (hn:yx js=true) (h:WI gd it env fun ds lk e1=>Ee (lF n.length (dE gd a)) js ds lk e1 Q):WE gd (.B3 n js it a) env Q:=by
 obtain ⟨ds,lk,e1,h1,ys,ec,h2,h3⟩:=h;refine ⟨_,_,?_,h3⟩;simp only [dE,h1];rw [IX (iV hn),h2]
def y8 (st:PyData->En->Option (Option PyData×En)) (d:PyData) (ec:En) (Q:Option PyData->En->Prop):Prop:=∃ y e,st d ec=some (y,e)/\Q y e
theorem kh {QS:Option PyData->En->Prop} {ec:En} (h:WT gd x (.dat d :: ec) fun k e2=>if k=true then WE gd a e2 fun r e3=>∃ y,r.av=.dat y/\QS (some y) e3.tail else QS none e2.tail):y8 (jr (dT gd x) (dE gd a)) d ec QS:=by
 obtain ⟨k,e2,h1,h2⟩:=h;unfold y8 jr;rw [h1];cases k with
 | true =>
  rw [IX rfl] at h2;obtain ⟨r,e3,h3,y,h4,h5⟩:=h2;simp only [h3,h4];exact ⟨_,_,rfl,h5⟩
 | false =>
  rw [IV (by decide)] at h2;exact ⟨_,_,rfl,h2⟩
theorem gR {st:PyData->En->Option (Option PyData×En)} {js:List Nat} {ds:List PyData} {lk:Option Nat} (Inv:Nat->List PyData->En->Prop) (h0:Inv 0 [] (fu e1 lk js))
  (hs:∀ i d ys ec,ds[i]?=some d->Inv i ys ec->y8 st d ec fun y e=>Inv (i+1) (ys++y.toList) e)
  (hq:∀ ys ec,Inv ds.length ys ec->Q (.frs (.list ys)) (bp e1 js ec)):Ee st js ds lk e1 Q:=by
 have key:∀ (rest:List PyData) (i:Nat) (ys:List PyData) (ec:En),ds.drop i=rest->i<=ds.length->Inv i ys ec->∃ zs ec',vo st rest ec=some (zs,ec')/\Inv ds.length (ys++zs) ec':=by
  intro rest;induction rest with
  | nil =>
   intro i ys ec hd hi hI;have:ds.length<=i:=List.drop_eq_nil_iff.mp hd;have:i=ds.length:=by omega
   subst this;exact ⟨[],ec,rfl,by rw [JV];exact hI⟩
  | cons d rest ih =>
   intro i ys ec hd hi hI;have hlt:i < ds.length:=by
    apply KC;intro h;rw [List.drop_eq_nil_iff.mpr (by omega)] at hd;cases hd
   rw [J8 hlt] at hd;injection hd with hd1 hd2;obtain ⟨y,e,h1,h2⟩:=hs i d ys ec (by rw [II hlt,hd1]) hI;obtain ⟨zs,ec',h3,h4⟩:=ih (i+1) _ e hd2 hlt h2;refine ⟨y.toList++zs,ec',?_,by rw [<- Jl];exact h4⟩;unfold vo;simp only [h1,h3]
 obtain ⟨zs,ec,h1,h2⟩:=key ds 0 [] _ rfl (JZ _) h0;exact ⟨zs,ec,h1,hq zs ec h2⟩
def WB (b:PyData->En->Option Out) (d:PyData) (e:En) (E:Kn):Prop:=∃ o,b d e=some o/\E.at o
theorem FW {e:En} (hf:free e i=true) (h:WS gd s (e.set i (.dat d)) E):WB (ka i (dS gd s)) d e E:=by
 obtain ⟨o,h1,h2⟩:=h;exact ⟨o,by unfold ka;rw [IX hf];exact h1,h2⟩
theorem Ds {e e2:En} {is:List Nat} {xs:List PyData} (hf:fU e is xs=some e2) (h:WS gd s e2 E):WB (jq is (dS gd s)) (.tuple xs) e E:=by
 obtain ⟨o,h1,h2⟩:=h;exact ⟨o,by unfold jq;simp only [hf];exact h1,h2⟩
theorem gL {b:PyData->En->Option Out} {ds:List PyData} {lk:Option Nat} (Inv:Nat->En->Prop) (h0:Inv 0 (cu e1 lk))
  (hs:∀ i d e,ds[i]?=some d->Inv i e->WB b d e ⟨Inv (i+1),fun r e=>E.rt (r.soft (lkd e1 lk)) (aM e1 lk e),fun e=>E.nx (aM e1 lk e),Inv (i+1)⟩)
  (hq:∀ e,Inv ds.length e->E.nx (aM e1 lk e)):Ek b ds lk e1 E:=by
 have key:∀ (rest:List PyData) (i:Nat) (e:En),ds.drop i=rest->i<=ds.length->Inv i e->∃ o,forL b rest e=some o/\E.at (o.map (lkd e1 lk) (aM e1 lk)):=by
  intro rest;induction rest with
  | nil =>
   intro i e hd hi hI;have:ds.length<=i:=List.drop_eq_nil_iff.mp hd;have:i=ds.length:=by omega
   subst this;exact ⟨_,rfl,hq e hI⟩
  | cons d rest ih =>
   intro i e hd hi hI;have hlt:i < ds.length:=by
    apply KC;intro h;rw [List.drop_eq_nil_iff.mpr (by omega)] at hd;cases hd
   rw [J8 hlt] at hd;injection hd with hd1 hd2;obtain ⟨o,h1,h2⟩:=hs i d e (by rw [II hlt,hd1]) hI;unfold forL;simp only [h1];cases o with
   | nx e'=>exact ih (i+1) e' hd2 hlt h2
   | ct e'=>exact ih (i+1) e' hd2 hlt h2
   | bk e'=>exact ⟨_,rfl,h2⟩
   | rt r e'=>exact ⟨_,rfl,h2⟩
 exact key ds 0 _ rfl (JZ _) h0
theorem EU (q:QA [] env):WA gd .nil env QA:=⟨_,_,rfl,q⟩
theorem CO (h:WE gd a env fun r e=>WA gd as e fun avs e2=>QA (r.av :: avs) e2):WA gd (.cons a as) env QA:=by
 obtain ⟨r,e',h1,avs,e2,h2,h3⟩:=h;exact ⟨_,_,by simp only [dA,h1,h2],h3⟩
theorem FN (h:WE gd a env fun r e=>∃ k,r=.dat (.bool k)/\QT k e):WT gd (.tst a) env QT:=by
 obtain ⟨r,e',h1,k,rfl,h2⟩:=h;exact ⟨_,_,by simp only [dT,h1],h2⟩
theorem F5 (h:WE gd a env fun r e=>∃ d,r.view e=some d/\D5 d=false/\QT (GQ d) e):WT gd (.tru a) env QT:=by
 obtain ⟨r,e',h1,d,h2,h4,h3⟩:=h;exact ⟨_,e',by simp only [dT,h1,h2,h4];rfl,h3⟩
theorem w_and (h:WT gd x env fun k e=>if k=true then WT gd y e QT else QT false e):WT gd (.and x y) env QT:=by
 obtain ⟨k,e',h1,h2⟩:=h;unfold WT;cases k with
 | true=>simp only [dT,h1];exact h2
 | false=>simp only [dT,h1];exact ⟨_,_,rfl,h2⟩
theorem w_or (h:WT gd x env fun k e=>if k=true then QT true e else WT gd y e QT):WT gd (.or x y) env QT:=by
 obtain ⟨k,e',h1,h2⟩:=h;unfold WT;cases k with
 | true=>simp only [dT,h1];exact ⟨_,_,rfl,h2⟩
 | false=>simp only [dT,h1];exact h2
theorem w_not (h:WT gd x env fun k e=>QT (!k) e):WT gd (.not x) env QT:=by
 obtain ⟨k,e',h1,h2⟩:=h;exact ⟨_,_,by simp only [dT,h1],h2⟩
theorem Fx (h:QT true env):WT gd .yes env QT:=⟨_,_,rfl,h⟩
def z9 (r:RV) (e:En) (QI:List PyData->Option Nat->En->Prop):Prop:=(∃ ds,r.av=.dat (.list ds)/\QI ds none e)\/∃ i ds,r.av=.bor i/\cont e i=some (.list ds)/\QI ds (some i) e
theorem HL (h:WE gd a env fun r e=>z9 r e QI):WI gd (.lst a) env QI:=by
 obtain ⟨r,e',h1,⟨ds,h2,h3⟩ | ⟨i,ds,h2,h3,h4⟩⟩:=h
 ·exact ⟨_,_,_,by simp only [dI,h1,h2],h3⟩
 ·exact ⟨_,_,_,by simp only [dI,h1,h2,h3],h4⟩
theorem BR {r:RV} {e:En} {ds:List PyData} (h:r.av=.dat (.list ds)) (q:QI ds none e):z9 r e QI:=.inl ⟨ds,h,q⟩
theorem Dp {r:RV} {e:En} {ds:List PyData} (h:r.av=.bor i) (hc:cont e i=some (.list ds)) (q:QI ds (some i) e):z9 r e QI:=.inr ⟨i,ds,h,hc,q⟩
theorem Hx (h:WE gd a env fun r e=>∃ ds,r.av=.dat (.tuple ds)/\QI ds none e):WI gd (.tup a) env QI:=by
 obtain ⟨r,e',h1,ds,h2,h3⟩:=h;exact ⟨_,_,_,by simp only [dI,h1,h2],h3⟩
def WSq (r:RV) (e:En) (QI:List PyData->Option Nat->En->Prop):Prop:=z9 r e QI\/∃ ds,r.av=.dat (.tuple ds)/\QI ds none e
theorem Ia (h:WE gd a env fun r e=>WSq r e QI):WI gd (.sq a) env QI:=by
 obtain ⟨r,e',h1,(⟨ds,h2,h3⟩ | ⟨i,ds,h2,h3,h4⟩) | ⟨ds,h2,h3⟩⟩:=h
 ·exact ⟨_,_,_,by simp only [dI,h1,h2],h3⟩
 ·exact ⟨_,_,_,by simp only [dI,h1,h2,h3],h4⟩
 ·exact ⟨_,_,_,by simp only [dI,h1,h2],h3⟩
theorem H0 (h:WE gd a env fun r e=>∃ z,r.av=.dat (.str z)/\QI (z.cps.toList.map fun c=>.str ⟨#[c]⟩) none e):WI gd (.str a) env QI:=by
 obtain ⟨r,e',h1,ds,h2,h3⟩:=h;exact ⟨_,_,_,by simp only [dI,h1,h2],h3⟩
theorem Iq (h:WA gd as env fun avs e=>∃ j:Int,avs=[.dat (.int j)]/\(-(2 ^ 62)<=j/\j<=2 ^ 24)/\QI ((List.range j.toNat).map fun (k:Nat)=>.int ((0:Int)+(k:Int))) none e):WI gd (.rng1 as) env QI:=by
 obtain ⟨r,e',h1,j,rfl,h2,h3⟩:=h;exact ⟨_,_,_,by simp only [dI,h1];rw [IX h2],h3⟩
end
end L2
end
section
namespace L2
open PySem
theorem v7 {e:En} {i:Nat} {s:Sl} (h:e[i]?=some s) (q:soft s):free e i=true:=by
 unfold free;rw [h];cases s with
 | ino d=>exact absurd rfl (q.1 d)
 | ro d=>exact absurd rfl (q.2 d)
 | _=>rfl
theorem EH:soft .un:=⟨fun _=>nofun,fun _=>nofun⟩
theorem EV {d:PyData}:soft (.dat d):=⟨fun _=>nofun,fun _=>nofun⟩
theorem DZ {d:PyData}:soft (.own d):=⟨fun _=>nofun,fun _=>nofun⟩
theorem AK {e:En} {i:Nat} {avs:List AV} {xs:List PyData} {d:PyData} {Q:RV->En->Prop} (h1:br e i=some (.list xs)) (h2:xs.length < sizeLine) (h3:fH e avs=some [(true,d)]) (q:Q (.dat .none) (iG e i (.list (xs++[d])))):WMr Ak i avs e Q :=
 ⟨_,_,.list (xs++[d]),.none,h1,h3,by show (if xs.length < sizeLine then _ else _)=_;rw [IX h2],q⟩
theorem Bn {e:En} {x y:AV} {xs ys:List PyData} {Q:RV->En->Prop} (h1:bG e [x,y]=some [.list xs,.list ys]) (h2:xs.length+ys.length<=sizeLine) (q:Q (.frs (.list (xs++ys))) e):WPr il [x,y] e Q :=
 ⟨_,.frs (.list (xs++ys)),h1,by show (if xs.length+ys.length<=sizeLine then _ else _)=_;rw [IX h2],q⟩
theorem Cb {e:En} {x y:AV} {xs ys:Str} {Q:RV->En->Prop} (h1:bG e [x,y]=some [.str xs,.str ys]) (h2:xs.length+ys.length<=sizeLine) (q:Q (.dat (.str (xs++ys))) e):WPr il [x,y] e Q :=
 ⟨_,.dat (.str (xs++ys)),h1,by show (if xs.length+ys.length<=sizeLine then _ else _)=_;rw [IX h2],q⟩
theorem w_eq {e:En} {x y:AV} {d d':PyData} {Q:RV->En->Prop} (h1:bG e [x,y]=some [d,d']) (h2:ip d=true) (h3:ip d'=true) (q:Q (.dat (.bool (PyData.eqv d d'))) e):WPr eqP [x,y] e Q :=
 ⟨_,.dat (.bool (PyData.eqv d d')),h1,by show (if ip d=true/\ip d'=true then _ else _)=_;rw [IX ⟨h2,h3⟩];rfl,q⟩
theorem HN {e:En} {x y:AV} {d d':PyData} {Q:RV->En->Prop} (h1:bG e [x,y]=some [d,d']) (h2:ip d=true) (h3:ip d'=true) (q:Q (.dat (.bool (!PyData.eqv d d'))) e):WPr neP [x,y] e Q :=
 ⟨_,.dat (.bool (!PyData.eqv d d')),h1,by show (if ip d=true/\ip d'=true then _ else _)=_;rw [IX ⟨h2,h3⟩];rfl,q⟩
theorem jN {n i:Nat} {d:PyData} (h:((List.range n).map fun (k:Nat)=>PyData.int ((0:Int)+(k:Int)))[i]?=some d):d=.int i/\i < n:=by
 rw [Jd] at h;cases q:(List.range n)[i]? with
 | none=>rw [q] at h;cases h
 | some j =>
  rw [q] at h;obtain ⟨hi,e⟩:=IL.mp q;rw [J5] at hi;have:j=i:=by rw [<- e];simp
  subst this;cases h;exact ⟨by simp,hi⟩
theorem lA {n:Nat}:((List.range n).map fun (k:Nat)=>PyData.int ((0:Int)+(k:Int))).length=n:=by rw [IK,J5]
theorem atV {α:Type} {xs:List α} {r:Int} (h0:0<=r) (h1:r < xs.length):∃ v,v∈xs/\atI xs r=some v:=by
 have hj:r.toNat < xs.length:=by omega
 have ej:r=((r.toNat:Nat):Int):=by omega
 refine ⟨xs[r.toNat],Lf hj,?_⟩;have:=i9 (xs:=xs) (j:=r.toNat) (v:=xs[r.toNat]) (II hj);rw [<- ej] at this;exact this
theorem vW {α:Type} {xs:List α} {k:Int} (h:0<=k):cutD xs none (some k)=xs.take k.toNat:=by
 unfold cutD;simp only [HT.sIx,K5,Nat.sub_zero];rw [IV (by omega)];by_cases z:k.toNat<=xs.length
 ·congr 1;omega
 ·rw [Kh (by omega),Kh (by omega)]
theorem oF (x:Str):x.cps.toList.length=x.length:=by simp [Str.length]
mutual
theorem eqv_refl:∀ d:PyData,noD d=true->PyData.eqv d d=true
 | .none,_=>by simp [PyData.eqv]
 | .bool b,_=>by simp [PyData.eqv]
 | .int i,_=>by simp [PyData.eqv]
 | .str x,_=>by simp [PyData.eqv]
 | .list xs,h=>by simpa [PyData.eqv] using eqvAll_refl xs (by simpa [noD] using h)
 | .tuple xs,h=>by simpa [PyData.eqv] using eqvAll_refl xs (by simpa [noD] using h)
 | .dict _,h=>by simp [noD] at h
theorem eqvAll_refl:∀ ds:List PyData,fK ds=true->PyData.eqvAll ds ds=true
 | [],_=>by simp [PyData.eqvAll]
 | d :: ds,h=>by
  have h':noD d=true/\fK ds=true:=by simpa [fK] using h
  simp [PyData.eqvAll,eqv_refl d h'.1,eqvAll_refl ds h'.2]
end
theorem lR:∀ {ds:List PyData},fK ds=true↔∀ d∈ds,noD d=true
 | []=>by simp [fK]
 | d :: ds=>by simp [fK,lR (ds:=ds)]
theorem fM {k:Nat}:∀ {ds:List PyData},(∀ d∈ds,d.depth<=k)->PyData.depthAll ds<=k
 | [],_=>by simp [PyData.depthAll]
 | d :: ds,h=>by
  have h1:=h d IU;have h2:=fM fun x hx=>h x (Jb _ hx);simp only [PyData.depthAll];omega
theorem qu {k:Nat} {ds:List PyData} (h:∀ d∈ds,d.depth<=k):(PyData.list ds).depth<=k+1:=by
 simp only [PyData.depth];have:=fM h;omega
theorem i4 {k:Nat} {ds:List PyData} (h:∀ d∈ds,d.depth<=k):(PyData.tuple ds).depth<=k+1:=by
 simp only [PyData.depth];have:=fM h;omega
theorem ud {d:PyData} (h1:noD d=true) (h2:d.depth<=64):ip d=true:=by simp [ip,h1,h2]
end L2
end
section
namespace L2
open PySem
section
variable {gd:List PyData} {env e1:En} {Q:RV->En->Prop} {a:XE} {as:XA}
end
end L2
end
section
namespace L2
open PySem PySem.Spec PyProof.Rows
theorem kF:∀ bs:List Bool,iZ (bs.map .bool)=some bs
 | []=>rfl
 | b :: bs=>by
  rw [JK];unfold iZ;rw [kF bs]
end L2
end
section
namespace L2
open PySem PySem.Spec PyProof.Rows
def vQ:List (Option Sl)->En->Prop
 | [],e=>e=[]
 | some s :: r,e=>∃ e',vQ r e'/\e=s :: e'
 | none :: r,e=>∃ x e',soft x/\vQ r e'/\e=x :: e'
section
variable {gd:List PyData} {e e':En} {E:Kn} {Q:RV->En->Prop} {QA:List AV->En->Prop} {QT:Bool->En->Prop} {QI:List PyData->Option Nat->En->Prop} {N:En->Prop} {i:Nat} {r:RV}
theorem B7 (h:e=e') (q:Ce i r e' N):Ce i r e N:=h▸q
theorem yU (h:e=e') (q:sU i r e' N):sU i r e N:=h▸q
theorem Cs {is:List Nat} (h:e=e') (q:DM is r e' N):DM is r e N:=h▸q
theorem HB {as:XA} (h:e=e') (q:WA gd as e' QA):WA gd as e QA:=h▸q
theorem HR {a:XE} (h:e=e') (q:WE gd a e' Q):WE gd a e Q:=h▸q
theorem Im {s:XS} (h:e=e') (q:WS gd s e' E):WS gd s e E:=h▸q
theorem Iu {t:XT} (h:e=e') (q:WT gd t e' QT):WT gd t e QT:=h▸q
theorem Ir {t:XI} (h:e=e') (q:WI gd t e' QI):WI gd t e QI:=h▸q
theorem Fp {p:Prm} {avs:List AV} (h:e=e') (q:WPr p avs e' Q):WPr p avs e Q:=h▸q
theorem zT {f:Fn} {avs:List AV} (h:e=e') (q:qU f avs e' Q):qU f avs e Q:=h▸q
theorem F9 {mk:List PyData->RV} {avs:List AV} (h:e=e') (q:WTp mk avs e' Q):WTp mk avs e Q:=h▸q
theorem Eg {m:Mtr} {avs:List AV} (h:e=e') (q:WMr m i avs e' Q):WMr m i avs e Q:=h▸q
theorem Eo {m:Mtd} {avs:List AV} (h:e=e') (q:DW m r avs e' Q):DW m r avs e Q:=h▸q
theorem CP {m:Mtd} {as:XA} (h:e=e') (q:DI gd m as r e' Q):DI gd m as r e Q:=h▸q
theorem Ck {ms:List PM} {QF:PR->List PyData->Prop} (h:e=e') (q:DK ms QF r e'):DK ms QF r e:=h▸q
theorem zY {ms:List PM} {QF:PR->List PyData->Prop} (h:e=e') (q:vI ms QF e'):vI ms QF e:=h▸q
theorem Ao (h:e=e') (q:z9 r e' QI):z9 r e QI:=h▸q
theorem Du {m:xR} {a:XE} (h:e=e') (q:DJ gd m i a r e' N):DJ gd m i a r e N:=h▸q
theorem Dt {m:xR} {v:PyData} (h:e=e') (q:Cn m i v r e' N):Cn m i v r e N:=h▸q
end
theorem isEq {b:Bool} {avs:List AV} {e:En} {Q:RV->En->Prop} (h:WPr (DV b) avs e Q):WPr (DV b) avs e Q:=h
theorem qA {env e2:En} {i:Nat} {is:List Nat} {d:PyData} {ds:List PyData} (h:free env i=true) (q:fU (env.set i (.dat d)) is ds=some e2):fU env (i :: is) (d :: ds)=some e2:=by
 simp only [fU];rw [IX h];exact q
theorem ua {x y:Str}:PyData.eqv (.str x) (.str y)=decide (x=y):=by
 simp only [PyData.eqv];rfl
theorem zo {e:En} {x y:AV} {d:PyData} {Q:RV->En->Prop} (h1:bG e [x,y]=some [d,d]) (h2:ip d=true) (q:Q (.dat (.bool true)) e):WPr eqP [x,y] e Q :=
 w_eq h1 h2 h2 (by rw [eqv_refl d (by have:=h2;simp only [ip,JL] at this;exact this.1)];exact q)
theorem AD {e:En} {x y:AV} {d:PyData} {Q:RV->En->Prop} (h1:bG e [x,y]=some [d,d]) (h2:ip d=true) (q:Q (.dat (.bool false)) e):WPr neP [x,y] e Q :=
 HN h1 h2 h2 (by rw [eqv_refl d (by have:=h2;simp only [ip,JL] at this;exact this.1)];exact q)
def Ho (p:Prm) (r r2:RV) (k:PyData->Bool->Prop):Prop:=∃ x y b,r.av=.dat x/\r2.av=.dat y/\p.f [x,y]=some (.dat (.bool b))/\k y b
def GY (p:Prm) (y:PyData) (r:RV) (e:En) (Q:RV->En->Prop):Prop:=∃ z pr,r.av=.dat z/\p.f [y,z]=some pr/\Q pr.rv e
theorem DC {gd:List PyData} {env:En} {p p':Prm} {a b c:XE} {Q:RV->En->Prop} (h:WE gd a env fun r e=>WE gd b e fun r2 e2=>Ho p r r2 fun y k=>if k=true then WE gd c e2 fun r3 e3=>GY p' y r3 e3 Q else Q (.dat (.bool false)) e2):WE gd (.chn p p' a b c) env Q:=by
 refine Ez ?_;obtain ⟨r,e,h1,r2,e2,h2,x,y,k,h3,h4,h5,h6⟩:=h;exact ⟨r,e,h1,r2,e2,h2,x,y,k,h3,h4,h5,h6⟩
theorem w_all {e:En} {x:AV} {bs:List Bool} {Q:RV->En->Prop} (h1:bG e [x]=some [.list (bs.map .bool)]) (q:Q (.dat (.bool (bs.all id))) e):WPr Ac [x] e Q:=by
 refine ⟨_,.dat (.bool (bs.all id)),h1,?_,q⟩;show (iZ (bs.map .bool)).map _=_;rw [kF];rfl
theorem take_snoc {α:Type} {xs:List α} {i:Nat} {x:α} (h:xs[i]?=some x):xs.take i++[x]=xs.take (i+1):=by
 rw [List.take_add_one,h];rfl
theorem gf {α:Type} {P:α->Prop} {xs:List α} {y:α} (h:∀ x∈xs,P x) (hy:P y):∀ x∈xs++[y],P x:=fun x hm=>by
 rcases Jx.mp hm with hm | hm
 ·exact h x hm
 ·rw [IZ.mp hm];exact hy
end L2
end
section
namespace L2
open PySem PySem.Spec PyProof.Rows
section
variable {gd:List PyData} {a:XE} {env:En} {QI:List PyData->Option Nat->En->Prop}
def Hy (r:RV) (e:En) (QI:List PyData->Option Nat->En->Prop):Prop:=(∃ kvs,r.av=.dat (.dict kvs)/\QI (kvs.map (·.1)) none e)\/∃ i kvs,r.av=.bor i/\cont e i=some (.dict kvs)/\QI (kvs.map (·.1)) (some i) e
theorem Iv (h:WE gd a env fun r e=>Hy r e QI):WI gd (.dct a) env QI:=by
 obtain ⟨r,e',h1,⟨kvs,h2,h3⟩ | ⟨i,kvs,h2,h4,h3⟩⟩:=h
 ·exact ⟨_,_,_,by simp only [dI,h1,h2],h3⟩
 ·exact ⟨_,_,_,by simp only [dI,h1,h2,h4],h3⟩
end
theorem sV {i:Nat} {v k:PyData} {rk:RV} {e2:En} {N:En->Prop} {kvs:List (PyData×PyData)} (h1:rk.view e2=some k) (h2:br e2 i=some (.dict kvs)) (h3:hk6 k=true) (h4:kvs.length < sizeLine) (q:N (iG e2 i (.dict (putD kvs k v)))):Cn nM i v rk e2 N :=
 ⟨_,_,_,h1,h2,by show (if hk6 k=true/\kvs.length < sizeLine then some (PyData.dict (putD kvs k v)) else none)=_;rw [IX ⟨h3,h4⟩],q⟩
end L2
end
section
namespace L2
open PySem PySem.Spec PyProof.Rows PySem.W
structure Ord (lt:Nat->Nat->Bool) (n:Nat):Prop where
 irr:∀ i,lt i i=false
 tr:∀ i j k,lt i j=true->lt j k=true->lt i k=true
 tot:∀ i j,i < n->j < n->i≠j->lt i j=false->lt j i=true
def at_ (p:Array Nat) (i:Nat):Nat:=p.getD i 0
def Up (lt:Nat->Nat->Bool) (p:Array Nat) (m:Nat):Prop:=∀ i,i+1 < m->lt (at_ p i) (at_ p (i+1))=true
section
variable {lt:Nat->Nat->Bool} {n:Nat} {p:Array Nat}
def Pm (n:Nat) (p:Array Nat):Prop:=p.Perm (List.range n).toArray
theorem Pm.size (h:Pm n p):p.size=n:=by
 have:=Array.Perm.size_eq h;simpa using this
theorem Up.all (O:Ord lt n) {m:Nat} (h:Up lt p m) {i j:Nat} (hij:i < j) (hj:j < m):lt (at_ p i) (at_ p j)=true:=by
 induction j with
 | zero=>omega
 | succ j ih =>
  by_cases e:i=j
  ·subst e;exact h i hj
  ·exact O.tr _ _ _ (ih (by omega) (by omega)) (h j hj)
end
end L2
end
section
namespace L2
open PySem PySem.Spec PyProof.Rows PySem.W
section
variable {P:Program} {w:World} {A:Around} {E:Value->Shared->Prop} {s:Shared} {d:Addr} {es:Array DictEntry} {ep:Nat}
def OkD (d:Addr) (es:Array DictEntry) (ep:Nat) (h:Heap):Prop:=∃ od,h.get? d=some od/\od.ExactDict/\od.data=.dict es ep
def GS (es:Array DictEntry) (i:Nat) (v:Value):Prop:=∃ e,es[i]?=some e/\v=e.key
theorem Bs (hh:A.handled=none) (I:Addr) (hne:d≠I):Walks P w A I [I,d] [I] es.size (GS es) (fun i h=>h.IsKeyIter I d i es.size ep/\OkD d es ep h) where
 sub:=fun b hb=>by simp at hb;simp [hb]
 frame:=fun _ _ _ st hk=>⟨st.1.at fun o e=>hk I (by simp) o e,let ⟨od,g,r⟩:=st.2;⟨od,hk d (by simp) _ g,r⟩⟩
 item:=fun i s Q E hi st hQ=>by
  obtain ⟨it,od,g1,g2,g3⟩:=st;refine B5 it g1 g3 (JU hi) fun h' it' sb=>?_;exact hQ _ h' s.toks ⟨_,JU hi,rfl⟩ ⟨it',od,(sb.2 d hne).trans g1,g2,g3⟩ fun b o hb e=>(sb.2 b (fun z=>hb (by simp [z]))).trans e
 done:=fun s Q E st hQ=>by
  obtain ⟨it,od,g1,g2,g3⟩:=st;exact EA hh it g1 g3 (IY _) fun h' eb=>hQ h' s.toks fun b o hb e=>eb b o (fun z=>hb (by simp [z])) e
 self:=fun _ _ _ _ st hQ=>wpAny_pyIter_keyiter st.1 hQ
theorem HA (lo:(d==sysModules)=false):KdlSrc P w "dict" d d es.size (GS es) (OkD d es ep) where
 type:=fun _ ⟨od,g1,g2,_⟩=>⟨od,g1,g2.1⟩
 there:=fun _ ⟨od,g1,_⟩=>⟨Ji g1,Ji g1⟩
 keep:=fun _ _ ⟨od,g1,r⟩ hk=>⟨od,hk d (.inl rfl) _ g1,r⟩
 notList:=by decide
 notTuple:=by decide
 hint:=fun _ _ _ _ ⟨od,g1,g2,_⟩ hq=>kdl_hint_dict ⟨od,g1,g2.1⟩ hq
 iter:=fun _ s hh ⟨od,g1,g2,g3⟩=>⟨_,_,(fun _ _ hq=>B4 lo g1 g2 g3 hq),Bs hh _ (JJ (Ji g1)),⟨⟨_,Jt _ rfl,rfl,rfl⟩,od,Ja _ g1,g2,g3⟩⟩
theorem Ep {R:Result->Shared->Prop} (hh:A.handled=none) (lo:(d==sysModules)=false) (ok:OkD d es ep s.heap) (hz:es.size<=sizeLine) {S:Addr} (ne:S≠d) (gS:s.heap.get? S=some { cls:=.type "list", data:=.seq #[] })
  (h:∀ h' tk acc' c',(∀ b o,b≠S->s.heap.get? b=some o->h'.get? b=some o)->h'.get? S=some { cls:=.type "list", dict:=none,data:=.seq acc' c',slots:=#[] }->ItemsOf (GS es) acc' es.size->R (.ok (.ret (.ref S))) { s with heap:=h',toks:=tk }) :
  codeAny (model P w) A (.builtin "list.__iadd__" ⟨[.ref S,.ref d],[]⟩) R s:=by
 refine codeAny_builtin F.entry_list_iadd ?_;rw [Around.under_plainId F.plain_list_iadd _];show wpAny _ A.in1 (Builtin.List.listExtendWith (.ref S) (.ref d) (.ref S)) _ _ _;exact kdl_extend (HA lo) hh ok S ne ne (.ref S) 0 gS h hz
theorem Gj {Q:List Value->Shared->Prop} (hh:A.handled=none) (lo:(d==sysModules)=false) (ok:OkD d es ep s.heap) (hz:es.size<=sizeLine)
  (h:∀ vs h' tk,vs=(es.toList.map (·.key))->s.heap.objs.size < h'.objs.size->(∀ b o,s.heap.get? b=some o->h'.get? b=some o)->Q vs { s with heap:=h',toks:=tk }) :
  wpAny (model P w) A (collect (.ref d)) Q E s:=by
 obtain ⟨od,ho,g2,g3⟩:=id ok;unfold collect;refine IH (wpAny_runValue (codeAny_builtin F.entry_proto_collect ?_));rw [Around.under_plainId F.plain_proto_collect _];show wpAny _ A.in1 (newList []>>=fun l=>again (.builtin "list.__iadd__" ⟨[l,.ref d],[]⟩)) _ _ s;refine IH (Kc ?_);have hlt:d < s.heap.objs.size:=Ji ho;have ne:s.heap.objs.size≠d:=Nat.ne_of_gt hlt;have g1:OkD d es ep (s.heap.push { cls:=.type "list", data:=.seq ([]:List Value).toArray }):=⟨od,Ja _ ho,g2,g3⟩;have gS:(s.heap.push { cls:=.type "list", data:=.seq ([]:List Value).toArray }).get? s.heap.objs.size=some { cls:=.type "list", data:=.seq ([]:List Value).toArray }:=Jt _ rfl;refine IQ ⟨plainId_quiet F.plain_list_iadd _,Ep (s:={ s with heap:=s.heap.push { cls:=.type "list", data:=.seq ([]:List Value).toArray } }) hh lo g1 hz ne gS fun h' tk acc' c' hk hS' hacc=>?_⟩;show wpAny _ A (load s.heap.objs.size>>=_) _ _ _;refine IH (wpAny_load hS' ?_);refine IQ ?_;show Q acc'.toList _;refine h _ h' tk ?_ (Ji hS') fun b o e=>hk b o (JJ (Ji e)) (Ja _ e);apply List.ext_getElem?;intro j;rw [Array.getElem?_toList,Jd,Array.getElem?_toList];rcases Nat.lt_or_ge j es.size with z | z
 ·have zj:j < acc'.size:=by rw [hacc.1];exact z
  obtain ⟨e,h1,h2⟩:=hacc.2 j _ (JU zj);rw [JU zj,h1,h2];rfl
 ·rw [Array.getElem?_eq_none (by rw [hacc.1];exact z),Array.getElem?_eq_none z];rfl
end
end L2
end
section
namespace L2
open PySem PySem.Spec PyProof.Rows PySem.W
def fz:Bool->Keyed->Array Keyed->Nat->Nat->Nat->StateT SortSt Sem (Option Nat):=sortPriv% PySem.Builtin.gallop
def byd (left:Bool) (key:Keyed) (arr:Array Keyed) (base i:Nat):StateT SortSt Sem (Option Bool) :=
 elem' arr (base+i)>>=fun x=>if left=true then lt' x key else lt' key x>>=fun r=>pure (r.map fun b=>!b)
def hfB (left:Bool) (key:Keyed) (arr:Array Keyed) (base:Nat) (c:Option (Option Nat)×Nat×Nat):StateT SortSt Sem (ForInStep (Option (Option Nat)×Nat×Nat)) :=
 if c.2.1>=c.2.2 then pure (.done (none,c.2.1,c.2.2)) else
  byd left key arr base (c.2.1+(c.2.2 - c.2.1) / 2)>>=fun r=>match r with
   | some b=>if b=true then pure (.yield (none,c.2.1+(c.2.2 - c.2.1) / 2+1,c.2.2)) else pure (.yield (none,c.2.1,c.2.1+(c.2.2 - c.2.1) / 2))
   | _=>pure (.done (some none,c.2.1,c.2.2))
theorem bindC {α β:Type} {m m':StateT SortSt Sem α} {f f':α->StateT SortSt Sem β} (h:m=m') (k:∀ a,f a=f' a):(m>>=f)=(m'>>=f'):=by
 subst h;exact Kw k
section
variable {M:Model} {A:Around} {E:Value->Shared->Prop} {s:Shared}
theorem xA {α:Type} {m m':StateT SortSt Sem α} {Q:α->SortSt->Prop} {st:SortSt} (e:m=m') (h:wpS M A E s m' Q st):wpS M A E s m Q st:=e▸h
theorem xK {left:Bool} {key:Keyed} {arr:Array Keyed} {base n lo hi:Nat} {P:Nat->Bool} {st:SortSt} {Q:Option Nat->SortSt->Prop}
  (hb:∀ i (C:Option Bool->SortSt->Prop),i < n->C (some (P i)) st->wpS M A E s (byd left key arr base i) C st) (hm:∀ i j,i<=j->j < n->P j=true->P i=true)
  (h0:hi<=n) (hl:lo<=hi) (h1:∀ i,i < lo->P i=true) (h2:∀ i,hi<=i->i < n->P i=false)
  (h:∀ k,k<=n->(∀ i,i < k->P i=true)->(∀ i,k<=i->i < n->P i=false)->Q (some k) st) :
  wpS M A E s (forIn [0:n] ((none,lo,hi):Option (Option Nat)×Nat×Nat) (fun _ c=>hfB left key arr base c)>>=fun c=>match c.1 with
   | some r=>pure r
   | none=>pure (some c.2.2)) Q st:=by
 refine Jj (J3 (I:=fun i c st'=>st'=st/\c.1=none/\c.2.1<=c.2.2/\c.2.2<=n/\c.2.2 - c.2.1<=n - i/\(∀ i,i < c.2.1->P i=true)/\(∀ i,c.2.2<=i->i < n->P i=false)) ?_ ?_ ⟨rfl,rfl,hl,h0,by dsimp only;omega,h1,h2⟩)
 ·rintro i ⟨r,lo,hi⟩ _ _ hi' ⟨rfl,e,a1,a2,a3,a4,a5⟩;dsimp only at e a1 a2 a3 a4 a5 ⊢;subst e;unfold hfB;dsimp only;by_cases c:lo>=hi
  ·rw [IX c];exact Jg (Jg (h hi a2 (fun i z=>a4 i (by omega)) a5))
  ·rw [IV c];refine Jj (hb _ _ (by omega) ?_);dsimp only;cases e:P (lo+(hi - lo) / 2) with
   | true =>
    rw [IX rfl];exact Jg ⟨rfl,rfl,by dsimp only;omega,a2,by dsimp only;omega,fun i z=>hm _ _ (by dsimp only at z;omega) (by omega) e,a5⟩
   | false =>
    rw [IV Jf];refine Jg ⟨rfl,rfl,by dsimp only;omega,by dsimp only;omega,by dsimp only;omega,a4,fun i z y=>?_⟩;cases e':P i with
    | false=>rfl
    | true=>rw [hm _ _ z y e'] at e;exact absurd e (by decide)
 ·rintro ⟨r,lo,hi⟩ _ ⟨rfl,e,a1,a2,a3,a4,a5⟩;dsimp only at e a1 a2 a3 a4 a5 ⊢;subst e;exact Jg (h hi a2 (fun i z=>a4 i (by omega)) a5)
theorem wI {left:Bool} {key:Keyed} {arr:Array Keyed} {base n hint:Nat} {P:Nat->Bool} {st:SortSt} {Q:Option Nat->SortSt->Prop}
  (hb:∀ i (C:Option Bool->SortSt->Prop),i < n->C (some (P i)) st->wpS M A E s (byd left key arr base i) C st) (hm:∀ i j,i<=j->j < n->P j=true->P i=true)
  (hn:hint < n)
  (h:∀ k,k<=n->(∀ i,i < k->P i=true)->(∀ i,k<=i->i < n->P i=false)->Q (some k) st) :
  wpS M A E s (fz left key arr base n hint) Q st:=by
 have hmf:∀ i j,i<=j->j < n->P i=false->P j=false:=fun i j hij hj e=>by
  cases e':P j with
  | false=>rfl
  | true=>rw [hm _ _ hij hj e'] at e;exact absurd e (by decide)
 unfold fz;refine Jj (hb _ _ hn ?_);dsimp only;cases e:P hint with
 | true =>
  rw [IX rfl];refine Jj (Kf (J3 (I:=fun i (c:Option (Option Nat)×Nat×Nat) st'=>st'=st/\c.1=none/\c.2.1 < c.2.2/\i+1<=c.2.2/\hint+c.2.1 < n/\P (hint+c.2.1)=true) (Q:=fun (c:Option (Option Nat)×Nat×Nat) st'=>st'=st/\c.1=none/\c.2.1 < c.2.2/\hint+c.2.1 < n/\P (hint+c.2.1)=true/\∀ i,hint+min c.2.2 (n - hint)<=i->i < n->P i=false) ?_ ?_ ⟨rfl,rfl,Kx _,IY _,hn,e⟩) ?_)
  ·rintro i ⟨r,lo,hi⟩ _ _ hi' ⟨rfl,e,a1,a2,a3,a4⟩;dsimp only at e a1 a2 a3 a4 ⊢;subst e;by_cases c:hi>=n - hint
   ·rw [IX c];exact Jg ⟨rfl,rfl,a1,a3,a4,fun i z y=>by dsimp only at z;omega⟩
   ·rw [IV c];refine Jj (hb _ _ (by omega) ?_);dsimp only;cases e:P (hint+hi) with
    | true =>
     rw [IV (by decide)];exact Jg ⟨rfl,rfl,by dsimp only;omega,by dsimp only;omega,by dsimp only;omega,e⟩
    | false =>
     rw [IX (by decide)];exact Jg ⟨rfl,rfl,a1,a3,a4,fun i z y=>hmf _ _ (by dsimp only at z;omega) y e⟩
  ·rintro ⟨r,lo,hi⟩ _ ⟨rfl,e,a1,a2,a3,a4⟩;exact ⟨rfl,e,a1,a3,a4,fun i z y=>by dsimp only at z a2;omega⟩
  ·rintro ⟨r,lo,hi⟩ _ ⟨rfl,e,a1,a2,a3,a4⟩;dsimp only at e a1 a2 a3 a4 ⊢;subst e;refine xA ?_ (xK (lo:=hint+lo+1) (hi:=hint+min hi (n - hint)) hb hm (by omega) (by omega) (fun i z=>hm _ _ (by omega) a2 a3) a4 h);exact bindC (by congr 1) fun c=>by cases c.1 <;> rfl
 | false =>
  rw [IV Jf];refine Jj (Kf (J3 (I:=fun i (c:Option (Option Nat)×Nat×Nat) st'=>st'=st/\c.1=none/\c.2.1 < c.2.2/\i+1<=c.2.2/\c.2.1<=hint/\P (hint - c.2.1)=false) (Q:=fun (c:Option (Option Nat)×Nat×Nat) st'=>st'=st/\c.1=none/\c.2.1 < c.2.2/\c.2.1<=hint/\P (hint - c.2.1)=false/\∀ i,i < hint+1 - min c.2.2 (hint+1)->P i=true) ?_ ?_ ⟨rfl,rfl,Kx _,IY _,JZ _,e⟩) ?_)
  ·rintro i ⟨r,lo,hi⟩ _ _ hi' ⟨rfl,e,a1,a2,a3,a4⟩;dsimp only at e a1 a2 a3 a4 ⊢;subst e;by_cases c:hi>=hint+1
   ·rw [IX c];exact Jg ⟨rfl,rfl,a1,a3,a4,fun i z=>by dsimp only at z;omega⟩
   ·rw [IV c];refine Jj (hb _ _ (by omega) ?_);dsimp only;cases e:P (hint - hi) with
    | true =>
     rw [IX rfl];exact Jg ⟨rfl,rfl,a1,a3,a4,fun i z=>hm _ _ (by dsimp only at z;omega) (by omega) e⟩
    | false =>
     rw [IV Jf];exact Jg ⟨rfl,rfl,by dsimp only;omega,by dsimp only;omega,by dsimp only;omega,e⟩
  ·rintro ⟨r,lo,hi⟩ _ ⟨rfl,e,a1,a2,a3,a4⟩;exact ⟨rfl,e,a1,a3,a4,fun i z=>by dsimp only at z a2;omega⟩
  ·rintro ⟨r,lo,hi⟩ _ ⟨rfl,e,a1,a2,a3,a4⟩;dsimp only at e a1 a2 a3 a4 ⊢;subst e;refine xA ?_ (xK hb hm (by omega) (by omega) a4 (fun i z y=>hmf _ _ z y a3) h);exact bindC (by congr 1) fun c=>by cases c.1 <;> rfl
end
end L2
end
section
namespace L2
open PySem PySem.Spec PyProof.Rows PySem.W
def arK (F:Nat->Keyed) (l:List Nat):Array Keyed:=(l.map F).toArray
section
variable {F:Nat->Keyed} {l m:List Nat}
theorem bH:(arK F l).size=l.length:=by simp [arK]
theorem d8 {x:Nat}:(arK F l).push (F x)=arK F (l++[x]):=by simp [arK]
theorem dY:arK F l++arK F m=arK F (l++m):=by simp [arK]
theorem sH:(arK F l).reverse=arK F l.reverse:=by simp [arK]
theorem qk {i j:Nat}:(arK F l).extract i j=arK F ((l.drop i).take (j - i)):=by simp [arK,List.extract_eq_drop_take,List.map_drop,List.map_take]
theorem pR {i:Nat}:(arK F l).extract i l.length=arK F (l.drop i):=by rw [qk,Kh (by simp)]
theorem qc {j:Nat}:(arK F l).extract 0 j=arK F (l.take j):=by rw [qk,K5,Nat.sub_zero]
theorem Bt {i x:Nat} (h:l[i]?=some x):(arK F l)[i]?=some (F x):=by simp [arK,h]
theorem cf {i x:Nat} (h:l[i]?=some x):l.drop i=x :: l.drop (i+1):=by
 obtain ⟨hi,e⟩:=IL.mp h;rw [J8 hi,e]
end
structure Mg (lt:Nat->Nat->Bool) (tot o A B:List Nat):Prop where
 sa:(o++A).Pairwise fun x y=>lt x y=true
 sb:(o++B).Pairwise fun x y=>lt x y=true
 pm:(o++(A++B)).Perm tot
section
variable {lt:Nat->Nat->Bool} {tot o A B A1 A2 B1 B2:List Nat} {x y:Nat}
theorem Mg.symm (h:Mg lt tot o A B):Mg lt tot o B A:=⟨h.sb,h.sa,(Kv o List.perm_append_comm).trans h.pm⟩
theorem Mg.left (h:Mg lt tot o (A1++A2) B) (q:∀ x∈A1,∀ y∈B,lt x y=true):Mg lt tot (o++A1) A2 B:=by
 refine ⟨by rw [Jl];exact h.sa,?_,by have:=h.pm;simp only [Jl] at this ⊢;exact this⟩;have h1:=Jh.mp h.sa;have h2:=Jh.mp h.sb;have h3:=Jh.mp h1.2.1;rw [Jl,Jh];refine ⟨h1.1,Jh.mpr ⟨h3.1,h2.2.1,q⟩,fun a ha b hb=>?_⟩;rcases Jx.mp hb with z | z
 ·exact h1.2.2 a ha b (Jq _ z)
 ·exact h2.2.2 a ha b z
theorem Mg.right (h:Mg lt tot o A (B1++B2)) (q:∀ x∈B1,∀ y∈A,lt x y=true):Mg lt tot (o++B1) A B2:=(h.symm.left q).symm
theorem Mg.len (h:Mg lt tot o A B):o.length+(A.length+B.length)=tot.length:=by simpa using h.pm.length_eq
theorem Mg.wL {N:Nat} (O:Ord lt N) (h:Mg lt tot o (x :: A) (y :: B)) (q:lt y x=true):∀ z∈[y],∀ w∈x :: A,lt z w=true:=by
 intro z hz w hw;rw [IZ] at hz;subst hz;rcases Jo.mp hw with rfl | hw
 ·exact q
 ·exact O.tr _ _ _ q ((J9.mp (Jh.mp h.sa).2.1).1 _ hw)
theorem Mg.ne (h:Mg lt tot o A B) (nd:tot.Nodup) (hx:x∈A) (hy:y∈B):x≠y:=by
 have h1:=(JQ.mp (h.pm.nodup_iff.mpr nd)).2.1;exact (JQ.mp h1).2.2 x hx y hy
theorem Mg.inA (h:Mg lt tot o A B) (hx:x∈A):x∈tot:=h.pm.mem_iff.mp (IS _ (Jq _ hx))
theorem Mg.inB (h:Mg lt tot o A B) (hx:x∈B):x∈tot:=h.symm.inA hx
theorem Mg.les {N:Nat} (O:Ord lt N) (nd:tot.Nodup) (bd:∀ x∈tot,x < N) (h:Mg lt tot o A B) (hx:x∈A) (hy:y∈B) (e:lt y x=false):lt x y=true :=
 O.tot y x (bd _ (h.inB hy)) (bd _ (h.inA hx)) (Ne.symm (h.ne nd hx hy)) e
theorem Mg.low {N:Nat} (O:Ord lt N) (h:Mg lt tot o A (y :: B)) (q:∀ x∈A1,lt x y=true):∀ x∈A1,∀ w∈y :: B,lt x w=true:=by
 intro x hx w hw;rcases Jo.mp hw with rfl | hw
 ·exact q x hx
 ·exact O.tr _ _ _ (q x hx) ((J9.mp (Jh.mp h.sb).2.1).1 _ hw)
end
section
variable {M:Model} {E:Value->Shared->Prop} {Ar:Around} {s:Shared} {F:Nat->Keyed} {lt:Nat->Nat->Bool} {N:Nat} {κ:SortKind}
theorem bw {α:Type} {l:List Nat} {i x:Nat} {st:SortSt} {f:Keyed->StateT SortSt Sem α} {Q:α->SortSt->Prop} (h:l[i]?=some x) (q:wpS M Ar E s (f (F x)) Q st):wpS M Ar E s (elem' (arK F l) i>>=f) Q st:=by
 rw [elem'_eq,Bt h];exact Jj (Jg q)
def Cmp (M:Model) (Ar:Around) (E:Value->Shared->Prop) (s:Shared) (F:Nat->Keyed) (lt:Nat->Nat->Bool) (N:Nat) (κ:SortKind):Prop :=
 ∀ i j (C:Option Bool->SortSt->Prop) st,PyProof.Rows.kindOf st=κ->i < N->j < N->C (some (lt i j)) st->wpS M Ar E s (lt' (F i) (F j)) C st
theorem pG {P:Nat->Bool} {S:List Nat} {k:Nat} (hk:k<=S.length) (h1:∀ i,i < k->∀ x,S[i]?=some x->P x=true) (h2:∀ i,k<=i->i < S.length->∀ x,S[i]?=some x->P x=false) :
  ∃ S1 S2,S=S1++S2/\S1.length=k/\(∀ x∈S1,P x=true)/\∀ x∈S2,P x=false:=by
 refine ⟨S.take k,S.drop k,(List.take_append_drop k S).symm,by rw [JN];omega,fun x hx=>?_,fun x hx=>?_⟩
 ·obtain ⟨i,hi,e⟩:=List.mem_iff_getElem.mp hx;rw [JN] at hi;exact h1 i (by omega) x (by rw [List.getElem_take] at e;rw [II (by omega),e])
 ·obtain ⟨i,hi,e⟩:=List.mem_iff_getElem.mp hx;rw [Kk] at hi;exact h2 (k+i) (by omega) (by omega) x (by rw [List.getElem_drop] at e;rw [II (by omega),e])
theorem q0 {left:Bool} {y base n hint:Nat} {l S:List Nat} {st:SortSt} {Q:Option Nat->SortSt->Prop} (O:Ord lt N) (hc:Cmp M Ar E s F lt N κ) (hk:PyProof.Rows.kindOf st=κ)
  (hS:(l.drop base).take n=S) (hl:S.length=n) (hp:S.Pairwise fun x y=>lt x y=true) (hb:∀ x∈S,x < N) (hy:y < N) (hn:hint < n)
  (h:∀ S1 S2,S=S1++S2->(∀ x∈S1,(if left then lt x y else !lt y x)=true)->(∀ x∈S2,(if left then lt x y else !lt y x)=false)->Q (some S1.length) st) :
  wpS M Ar E s (fz left (F y) (arK F l) base n hint) Q st:=by
 have hx:∀ i,i < n->∃ x,S[i]?=some x/\l[base+i]?=some x/\x < N:=fun i hi=>by
  refine ⟨S[i]'(by omega),II _,?_,hb _ (Lf _)⟩;have:((l.drop base).take n)[i]?=S[i]?:=by rw [hS]
  rw [List.getElem?_take_of_lt hi,List.getElem?_drop] at this;rw [this,II]
 refine wI (P:=fun i=>if left then lt (S.getD i 0) y else !lt y (S.getD i 0)) (fun i C hi hC=>?_) (fun i j hij hj e=>?_) hn fun k hk1 a1 a2=>?_
 ·obtain ⟨x,e1,e2,e3⟩:=hx i hi;unfold byd;refine bw e2 ?_;have eg:S.getD i 0=x:=by rw [Jw,e1];rfl
  rw [eg] at hC;cases left with
  | true =>
   rw [IX rfl] at hC ⊢;exact hc _ _ _ _ hk e3 hy hC
  | false =>
   rw [IV Jf] at hC ⊢;exact Jj (hc _ _ _ _ hk hy e3 (Jg hC))
 ·rcases Nat.lt_or_eq_of_le hij with z | rfl
  ·obtain ⟨x,e1,e2,e3⟩:=hx i (by omega);obtain ⟨x',e1',e2',e3'⟩:=hx j hj;have eg:S.getD i 0=x:=by rw [Jw,e1];rfl
   have eg':S.getD j 0=x':=by rw [Jw,e1'];rfl
   have hlt:lt x x'=true:=by
    obtain ⟨u1,u2⟩:=IL.mp e1;obtain ⟨u3,u4⟩:=IL.mp e1';have:=J7.mp hp i j u1 u3 z
    rwa [u2,u4] at this
   try dsimp only at e ⊢
   rw [eg'] at e;rw [eg];cases left with
   | true =>
    rw [IX rfl] at e ⊢;exact O.tr _ _ _ hlt e
   | false =>
    rw [IV Jf] at e ⊢;cases e2:lt y x with
    | false=>rfl
    | true=>rw [O.tr _ _ _ e2 hlt] at e;exact e
  ·exact e
 ·obtain ⟨S1,S2,rfl,e,b1,b2⟩:=pG (S:=S) (P:=fun x=>if left then lt x y else !lt y x) (k:=k) (by omega)
   (fun i hi x e=>by have:=a1 i hi;rwa [Jw,e] at this)
   (fun i hi hi' x e=>by have:=a2 i hi (by omega);rwa [Jw,e] at this)
  rw [<- e];exact h S1 S2 rfl b1 b2
end
end L2
end
section
namespace L2
open PySem PySem.Spec PyProof.Rows PySem.W
def kR:Array Keyed->Array Keyed->StateT SortSt Sem (Array Keyed):=sortPriv% PySem.Builtin.mergeLo
def vc:Nat->StateT SortSt Sem Unit:=sortPriv% PySem.Builtin.setMinGallop
theorem iM (g:Nat):vc g=modify fun s=>SortSt.mk' (PyProof.Rows.kindOf s) (arrOf s) (pendingOf s) g (failedOf s):=rfl
abbrev CL:=Option (Array Keyed)×Array Keyed×Nat×Nat×Nat×Nat
abbrev CG:=Option (Array Keyed)×Array Keyed×Nat×Nat×Nat×Nat×Nat
abbrev fA (a b out:Array Keyed) (ia ib:Nat):=out++a.extract ia a.size++b.extract ib b.size
abbrev fL (a b out:Array Keyed) (ia ib:Nat):=out++b.extract ib b.size++a.extract ia a.size
def lo1 (a b:Array Keyed) (mg:Nat) (c:CL):StateT SortSt Sem (ForInStep CL):=do
 let some bWins<-lt' (<- elem' b c.2.2.2.1) (<- elem' a c.2.2.1) | return .done (some (fA a b c.2.1 c.2.2.1 c.2.2.2.1),c.2)
 if bWins then
  let x<-elem' b c.2.2.2.1
  if c.2.2.2.1+1==b.size then return .done (some (fA a b (c.2.1.push x) c.2.2.1 (c.2.2.2.1+1)),c.2.1.push x,c.2.2.1,c.2.2.2.1+1,0,c.2.2.2.2.2+1)
  if c.2.2.2.2.2+1>=mg then return .done (none,c.2.1.push x,c.2.2.1,c.2.2.2.1+1,0,c.2.2.2.2.2+1)
  return .yield (none,c.2.1.push x,c.2.2.1,c.2.2.2.1+1,0,c.2.2.2.2.2+1)
 else
  let x<-elem' a c.2.2.1
  if c.2.2.1+1+1==a.size then return .done (some (fL a b (c.2.1.push x) (c.2.2.1+1) c.2.2.2.1),c.2.1.push x,c.2.2.1+1,c.2.2.2.1,c.2.2.2.2.1+1,0)
  if c.2.2.2.2.1+1>=mg then return .done (none,c.2.1.push x,c.2.2.1+1,c.2.2.2.1,c.2.2.2.2.1+1,0)
  return .yield (none,c.2.1.push x,c.2.2.1+1,c.2.2.2.1,c.2.2.2.2.1+1,0)
def lo4 (a b out:Array Keyed) (ia ib mg k k1:Nat):StateT SortSt Sem (ForInStep CG):=do
 let x<-elem' a ia
 if ia+1+1==a.size then return .done (some (fL a b (out.push x) (ia+1) ib),out.push x,ia+1,ib,mg,k,k1)
 if k < 7&&k1 < 7 then return .done (none,out.push x,ia+1,ib,mg,k,k1)
 return .yield (none,out.push x,ia+1,ib,mg,k,k1)
def lo3 (a b out:Array Keyed) (ia ib mg k bc:Nat):StateT SortSt Sem (ForInStep CG):=do
 let x<-elem' b ib
 if ib+1==b.size then return .done (some (fA a b (out.push x) ia (ib+1)),out.push x,ia,ib+1,mg,k,bc)
 let some k1<-fz true (<- elem' a ia) b (ib+1) (b.size - (ib+1)) 0 | return .done (some (fA a b (out.push x) ia (ib+1)),out.push x,ia,ib+1,mg,k,bc)
 if k1 > 0 then
  if ib+1+k1==b.size then return .done (some (fA a b (out.push x++b.extract (ib+1) (ib+1+k1)) ia (ib+1+k1)),out.push x++b.extract (ib+1) (ib+1+k1),ia,ib+1+k1,mg,k,k1)
  else lo4 a b (out.push x++b.extract (ib+1) (ib+1+k1)) ia (ib+1+k1) mg k k1
 else lo4 a b (out.push x) ia (ib+1) mg k k1
def lo2 (a b out:Array Keyed) (ia ib mg ac bc:Nat):StateT SortSt Sem (ForInStep CG):=do
 vc mg
 let some k<-fz false (<- elem' b ib) a ia (a.size - ia) 0 | return .done (some (fA a b out ia ib),out,ia,ib,mg,ac,bc)
 if k > 0 then
  if ia+k+1==a.size then return .done (some (fL a b (out++a.extract ia (ia+k)) (ia+k) ib),out++a.extract ia (ia+k),ia+k,ib,mg,k,bc)
  else
   if ia+k==a.size then return .done (some (fA a b (out++a.extract ia (ia+k)) (ia+k) ib),out++a.extract ia (ia+k),ia+k,ib,mg,k,bc)
   else lo3 a b (out++a.extract ia (ia+k)) (ia+k) ib mg k bc
 else lo3 a b out ia ib mg k bc
theorem om (a b:Array Keyed):kR a b=(do
 rule "list.sort.merge-lo"
 let x<-elem' b 0
 if 1==b.size then return fA a b #[x] 0 1
 if 0+1==a.size then return fL a b #[x] 0 1
 let st<-get
 let r<-forIn [0:a.size+b.size] ((none,#[x],0,1,gallopOf st):Option (Array Keyed)×Array Keyed×Nat×Nat×Nat) fun _ c=>do
  let d<-forIn [0:a.size+b.size] ((none,c.2.1,c.2.2.1,c.2.2.2.1,0,0):CL) fun _ c'=>lo1 a b c.2.2.2.2 c'
  match d.1 with
  | some r=>pure (.done (some r,d.2.1,d.2.2.1,d.2.2.2.1,c.2.2.2.2))
  | none=>do
   rule "list.sort.gallop"
   let e<-forIn [0:a.size+b.size] ((none,d.2.1,d.2.2.1,d.2.2.2.1,c.2.2.2.2+1,d.2.2.2.2.1,d.2.2.2.2.2):CG) fun _ c' =>
    if c'.2.2.2.2.1 > 1 then lo2 a b c'.2.1 c'.2.2.1 c'.2.2.2.1 (c'.2.2.2.2.1 - 1) c'.2.2.2.2.2.1 c'.2.2.2.2.2.2
    else lo2 a b c'.2.1 c'.2.2.1 c'.2.2.2.1 c'.2.2.2.2.1 c'.2.2.2.2.2.1 c'.2.2.2.2.2.2
   match e.1 with
   | some r=>pure (.done (some r,e.2.1,e.2.2.1,e.2.2.2.1,e.2.2.2.2.1))
   | none=>do
    vc (e.2.2.2.2.1+1)
    pure (.yield (none,e.2.1,e.2.2.1,e.2.2.2.1,e.2.2.2.2.1+1))
 match r.1 with
 | some r=>pure r
 | none=>unsupported "internal:list.sort.merge-bound"):=by
 unfold kR;refine bindC rfl fun _=>?_;dsimp only;refine Kw fun x=>?_;congr 1;congr 1;refine Kw fun st=>?_;have:∀ {α β:Type} {m m':StateT SortSt Sem α} {f f':α->StateT SortSt Sem β},m=m'->f=f'->(m>>=f)=(m'>>=f'):=by rintro _ _ _ _ _ _ rfl rfl;rfl
 refine this ?_ ?_
 ·congr 1;funext _ c;refine this ?_ ?_
  ·congr 1
  ·funext d;cases d.1 with
   | some=>rfl
   | none =>
    dsimp only;refine Kw fun _=>?_;refine this ?_ ?_
    ·congr 1
    ·funext d;cases d.1 <;> rfl
 ·funext r;cases r.1 <;> rfl
end L2
end
section
namespace L2
open PySem PySem.Spec PyProof.Rows PySem.W
section
variable {M:Model} {E:Value->Shared->Prop} {Ar:Around} {s:Shared} {F:Nat->Keyed} {lt:Nat->Nat->Bool} {N:Nat} {κ:SortKind} {X:Array Keyed} {pd:Array (Nat×Nat×Nat)} {la lb tot:List Nat}
def FI (F:Nat->Keyed) (lt:Nat->Nat->Bool) (κ:SortKind) (X:Array Keyed) (pd:Array (Nat×Nat×Nat)) (tot:List Nat) (r:Array Keyed) (st:SortSt):Prop:=∃ o g,r=arK F o/\st=SortSt.mk' κ X pd g none/\o.Pairwise (fun x y=>lt x y=true)/\o.Perm tot
def LI (F:Nat->Keyed) (lt:Nat->Nat->Bool) (κ:SortKind) (X:Array Keyed) (pd:Array (Nat×Nat×Nat)) (tot la lb:List Nat) (L:Nat) (out:Array Keyed) (ia ib:Nat) (st:SortSt):Prop :=
 ∃ o g,out=arK F o/\st=SortSt.mk' κ X pd g none/\L<=o.length/\Mg lt tot o (la.drop ia) (lb.drop ib)/\ia+1 < la.length/\ib < lb.length
def RD (F:Nat->Keyed) (lt:Nat->Nat->Bool) (κ:SortKind) (X:Array Keyed) (pd:Array (Nat×Nat×Nat)) (tot la lb:List Nat) (L:Nat) (c:Option (Array Keyed)) (out:Array Keyed) (ia ib:Nat) (st:SortSt):Prop :=
 (∃ r,c=some r/\FI F lt κ X pd tot r st)\/(c=none/\LI F lt κ X pd tot la lb L out ia ib st)
def RG (F:Nat->Keyed) (lt:Nat->Nat->Bool) (κ:SortKind) (X:Array Keyed) (pd:Array (Nat×Nat×Nat)) (tot la lb:List Nat) (L:Nat):ForInStep CG->SortSt->Prop
 | .done c,st=>RD F lt κ X pd tot la lb L c.1 c.2.1 c.2.2.1 c.2.2.2.1 st
 | .yield c,st=>c.1=none/\LI F lt κ X pd tot la lb L c.2.1 c.2.2.1 c.2.2.2.1 st
theorem Dd {o:List Nat} {ia ib g:Nat} (h:Mg lt tot o (la.drop ia) (lb.drop ib)) (e:la.length<=ia\/lb.length<=ib):FI F lt κ X pd tot (fA (arK F la) (arK F lb) (arK F o) ia ib) (SortSt.mk' κ X pd g none):=by
 refine ⟨o++la.drop ia++lb.drop ib,g,by unfold fA;rw [bH,bH,pR,pR,dY,dY],rfl,?_,by rw [Jl];exact h.pm⟩;rcases e with e | e
 ·rw [List.drop_eq_nil_of_le e,JV];exact h.sb
 ·rw [List.drop_eq_nil_of_le e,JV];exact h.sa
theorem DS {o:List Nat} {ia ib g z:Nat} (hz:la[la.length - 1]?=some z) (hz':∀ y∈lb,lt y z=true) (h:Mg lt tot o (la.drop ia) (lb.drop ib)) (e:ia+1=la.length):FI F lt κ X pd tot (fL (arK F la) (arK F lb) (arK F o) ia ib) (SortSt.mk' κ X pd g none):=by
 have ez:la.drop ia=[z]:=by rw [cf (x:=z) (by rw [<- hz];congr 1;omega),List.drop_eq_nil_of_le (by omega)]
 refine ⟨o++lb.drop ib++la.drop ia,g,by unfold fL;rw [bH,bH,pR,pR,dY,dY],rfl,?_,by rw [Jl];exact h.symm.pm⟩;have h2:=h.symm;rw [<- JV (lb.drop ib)] at h2;refine (h2.left fun y hy w hw=>?_).symm.sa;rw [ez,IZ] at hw;subst hw;exact hz' y (List.mem_of_mem_drop hy)
theorem iO {l S1 S2:List Nat} {i:Nat} (h:l.drop i=S1++S2):l.drop (i+S1.length)=S2:=by rw [<- List.drop_drop,h,K6]
theorem o8 {l S1 S2:List Nat} {i:Nat} (h:l.drop i=S1++S2):l.length - i=S1.length+S2.length:=by rw [<- Kk,h,IJ]
theorem xE {l S1 S2:List Nat} {i:Nat} (h:l.drop i=S1++S2):(arK F l).extract i (i+S1.length)=arK F S1:=by rw [qk,h,Kr,List.take_left]
theorem xq {o:List Nat} {ia ib mg k k1 x g z L:Nat} (hz:la[la.length - 1]?=some z) (hz':∀ y∈lb,lt y z=true) (h:Mg lt tot o (la.drop ia) (lb.drop ib)) (ha:ia+1 < la.length) (hb:ib < lb.length) (hx:la[ia]?=some x) (q:∀ y∈lb.drop ib,lt x y=true) (hL:L<=o.length+1) :
  wpS M Ar E s (lo4 (arK F la) (arK F lb) (arK F o) ia ib mg k k1) (RG F lt κ X pd tot la lb L) (SortSt.mk' κ X pd g none):=by
 unfold lo4;refine bw hx ?_;rw [d8,bH];have h':Mg lt tot (o++[x]) (la.drop (ia+1)) (lb.drop ib):=by
  rw [cf hx] at h;exact Mg.left (A1:=[x]) h fun w hw y hy=>by rw [IZ] at hw;subst hw;exact q y hy
 have hL':L<=(o++[x]).length:=by rw [IJ];exact hL
 by_cases c:ia+1+1=la.length
 ·rw [IX (by rw [c];exact JX _)];exact Jg (.inl ⟨_,rfl,DS hz hz' h' c⟩)
 ·rw [IV (by rw [JD];exact c)];split
  ·exact Jg (.inr ⟨rfl,_,_,rfl,rfl,hL',h',by dsimp only;omega,hb⟩)
  ·exact Jg ⟨rfl,_,_,rfl,rfl,hL',h',by dsimp only;omega,hb⟩
variable (O:Ord lt N) (nd:tot.Nodup) (bd:∀ x∈tot,x < N) (hc:Cmp M Ar E s F lt N κ)
include O nd bd hc
theorem xo {o:List Nat} {ia ib mg k bc y g z L:Nat} (hz:la[la.length - 1]?=some z) (hz':∀ y∈lb,lt y z=true) (h:Mg lt tot o (la.drop ia) (lb.drop ib)) (ha:ia+1 < la.length) (hb:ib < lb.length) (hy:lb[ib]?=some y) (q:∀ x∈la.drop ia,lt y x=true) (hL:L<=o.length+1) :
  wpS M Ar E s (lo3 (arK F la) (arK F lb) (arK F o) ia ib mg k bc) (RG F lt κ X pd tot la lb L) (SortSt.mk' κ X pd g none):=by
 unfold lo3;refine bw hy ?_;rw [d8,bH];have h':Mg lt tot (o++[y]) (la.drop ia) (lb.drop (ib+1)):=by
  rw [cf hy] at h;exact Mg.right (B1:=[y]) h fun w hw v hv=>by rw [IZ] at hw;subst hw;exact q v hv
 have hL':L<=(o++[y]).length:=by rw [IJ];exact hL
 by_cases c:ib+1=lb.length
 ·rw [IX (by rw [c];exact JX _)];exact Jg (.inl ⟨_,rfl,Dd h' (.inr (by omega))⟩)
 ·rw [IV (by rw [JD];exact c)];obtain ⟨x,hx⟩:∃ x,la[ia]?=some x:=⟨_,II (by omega)⟩;refine bw hx ?_;have hxm:x∈la.drop ia:=by rw [cf hx];exact IU ..
  refine Jj (q0 (S:=lb.drop (ib+1)) O hc rfl (Kh (by simp)) (by simp) (Jh.mp h'.sb).2.1 (fun w hw=>bd _ (h'.inB hw)) (bd _ (h'.inA hxm)) (by omega) fun S1 S2 eS q1 q2=>?_);dsimp only;have q2':∀ w∈S2,lt x w=true:=fun w hw=>by
   have:=q2 w hw;rw [IX rfl] at this;exact h'.les O nd bd hxm (by rw [eS];exact IS _ hw) this
  have h2:Mg lt tot (o++[y]++S1) (la.drop ia) (lb.drop (ib+1+S1.length)):=by
   rw [iO eS];rw [eS] at h';refine h'.right ?_;rw [cf hx] at h' ⊢;exact h'.symm.low O fun w hw=>q1 w hw
  by_cases c2:S1.length > 0
  ·rw [IX c2,xE eS,dY];by_cases c3:ib+1+S1.length=lb.length
   ·rw [IX (by rw [c3];exact JX _)];exact Jg (.inl ⟨_,rfl,Dd h2 (.inr (by omega))⟩)
   ·rw [IV (by rw [JD];exact c3)];refine xq hz hz' h2 ha ?_ hx (by rw [iO eS];exact q2') (by rw [IJ];omega);have:=o8 eS;omega
  ·rw [IV c2];have e0:S1=[]:=Jv (by omega);subst e0;exact xq hz hz' h' ha (by omega) hx (by rw [eS];exact q2') (by omega)
theorem A8 {o:List Nat} {ia ib mg ac bc g z L:Nat} (hz:la[la.length - 1]?=some z) (hz':∀ y∈lb,lt y z=true) (h:Mg lt tot o (la.drop ia) (lb.drop ib)) (ha:ia+1 < la.length) (hb:ib < lb.length) (hL:L<=o.length+1) :
  wpS M Ar E s (lo2 (arK F la) (arK F lb) (arK F o) ia ib mg ac bc) (RG F lt κ X pd tot la lb L) (SortSt.mk' κ X pd g none):=by
 unfold lo2;rw [iM];refine Jj (KN ?_);obtain ⟨y,hy⟩:∃ y,lb[ib]?=some y:=⟨_,II hb⟩;refine bw hy ?_;have hym:y∈lb.drop ib:=by rw [cf hy];exact IU ..
 rw [bH];refine Jj (q0 (S:=la.drop ia) O hc rfl (Kh (by simp)) (by simp) (Jh.mp h.sa).2.1 (fun w hw=>bd _ (h.inA hw)) (bd _ (h.inB hym)) (by omega) fun S1 S2 eS q1 q2=>?_);dsimp only;have q1':∀ w∈S1,lt w y=true:=fun w hw=>by
  have:=q1 w hw;rw [IV Jf,La] at this;exact h.les O nd bd (by rw [eS];exact Jq _ hw) hym this
 have q2':∀ w∈S2,lt y w=true:=fun w hw=>by
  have:=q2 w hw
  rwa [IV Jf,Bool.not_eq_false'] at this
 have h2:Mg lt tot (o++S1) (la.drop (ia+S1.length)) (lb.drop ib):=by
  rw [iO eS];rw [eS] at h;refine h.left ?_;rw [cf hy] at h ⊢;exact h.low O q1'
 have hl:=o8 eS;by_cases c2:S1.length > 0
 ·rw [IX c2,xE eS,dY];by_cases c3:ia+S1.length+1=la.length
  ·rw [IX (by rw [c3];exact JX _)];exact Jg (.inl ⟨_,rfl,DS hz hz' h2 c3⟩)
  ·rw [IV (by rw [JD];exact c3)];by_cases c4:ia+S1.length=la.length
   ·rw [IX (by rw [c4];exact JX _)];exact Jg (.inl ⟨_,rfl,Dd h2 (.inl (by omega))⟩)
   ·rw [IV (by rw [JD];exact c4)];exact xo O nd bd hc hz hz' h2 (by omega) hb hy (by rw [iO eS];exact q2') (by rw [IJ];omega)
 ·rw [IV c2];have e0:S1=[]:=Jv (by omega);subst e0;exact xo O nd bd hc hz hz' h ha hb hy (by rw [eS];exact q2') hL
theorem BA {o:List Nat} {ia ib mg ac bc g z L:Nat} (hz:la[la.length - 1]?=some z) (hz':∀ y∈lb,lt y z=true) (h:Mg lt tot o (la.drop ia) (lb.drop ib)) (ha:ia+1 < la.length) (hb:ib < lb.length) (hL:L<=o.length+1) :
  wpS M Ar E s (lo1 (arK F la) (arK F lb) mg (none,arK F o,ia,ib,ac,bc)) (fun r st=>(∃ c,r=.done c/\RD F lt κ X pd tot la lb L c.1 c.2.1 c.2.2.1 c.2.2.2.1 st)\/∃ c,r=.yield c/\c.1=none/\LI F lt κ X pd tot la lb L c.2.1 c.2.2.1 c.2.2.2.1 st) (SortSt.mk' κ X pd g none):=by
 unfold lo1;obtain ⟨y,hy⟩:∃ y,lb[ib]?=some y:=⟨_,II hb⟩;obtain ⟨x,hx⟩:∃ x,la[ia]?=some x:=⟨_,II (by omega)⟩;have hxm:x∈la.drop ia:=by rw [cf hx];exact IU ..
 have hym:y∈lb.drop ib:=by rw [cf hy];exact IU ..
 dsimp only;refine bw hy (bw hx (Jj (hc _ _ _ _ rfl (bd _ (h.inB hym)) (bd _ (h.inA hxm)) ?_)));dsimp only;cases e:lt y x with
 | true =>
  rw [IX rfl];refine bw hy ?_;rw [d8,bH];have h':Mg lt tot (o++[y]) (la.drop ia) (lb.drop (ib+1)):=by
   rw [cf hy] at h;refine Mg.right (B1:=[y]) h ?_;rw [cf hx] at h ⊢;exact h.wL O e
  have hL':L<=(o++[y]).length:=by rw [IJ];exact hL
  by_cases c:ib+1=lb.length
  ·rw [IX (by rw [c];exact JX _)];exact Jg (.inl ⟨_,rfl,.inl ⟨_,rfl,Dd h' (.inr (by omega))⟩⟩)
  ·rw [IV (by rw [JD];exact c)];split
   ·exact Jg (.inl ⟨_,rfl,.inr ⟨rfl,_,_,rfl,rfl,hL',h',ha,by dsimp only;omega⟩⟩)
   ·exact Jg (.inr ⟨_,rfl,rfl,_,_,rfl,rfl,hL',h',ha,by dsimp only;omega⟩)
 | false =>
  rw [IV Jf];refine bw hx ?_;rw [d8,bH];have e':=h.les O nd bd hxm hym e;have h':Mg lt tot (o++[x]) (la.drop (ia+1)) (lb.drop ib):=by
   rw [cf hx] at h;refine Mg.left (A1:=[x]) h ?_;rw [cf hy] at h ⊢;exact h.symm.wL O e'
  have hL':L<=(o++[x]).length:=by rw [IJ];exact hL
  by_cases c:ia+1+1=la.length
  ·rw [IX (by rw [c];exact JX _)];exact Jg (.inl ⟨_,rfl,.inl ⟨_,rfl,DS hz hz' h' c⟩⟩)
  ·rw [IV (by rw [JD];exact c)];split
   ·exact Jg (.inl ⟨_,rfl,.inr ⟨rfl,_,_,rfl,rfl,hL',h',by dsimp only;omega,hb⟩⟩)
   ·exact Jg (.inr ⟨_,rfl,rfl,_,_,rfl,rfl,hL',h',by dsimp only;omega,hb⟩)
theorem uT {g z y:Nat} {B:List Nat} {Q:Array Keyed->SortSt->Prop} (hz:la[la.length - 1]?=some z) (hz':∀ y∈lb,lt y z=true) (hy:lb=y :: B) (hy':∀ x∈la,lt y x=true) (sa:la.Pairwise fun x y=>lt x y=true) (sb:lb.Pairwise fun x y=>lt x y=true) (et:tot=la++lb)
  (h:∀ r st,FI F lt κ X pd tot r st->Q r st):wpS M Ar E s (kR (arK F la) (arK F lb)) Q (SortSt.mk' κ X pd g none):=by
 have hal:1<=la.length:=by
  rcases Nat.eq_zero_or_pos la.length with e | e
  ·rw [Jv e] at hz;cases hz
  ·exact e
 have hbl:lb.length=B.length+1:=by rw [hy];rfl
 have hl:tot.length=la.length+lb.length:=by rw [et,IJ]
 have h0:Mg lt tot [y] (la.drop 0) (lb.drop 1):=by
  have m0:Mg lt tot [] la (y :: B):=⟨sa,by rw [<- hy];exact sb,by rw [<- hy,<-et];exact Ks _⟩;rw [hy];exact Mg.right (B1:=[y]) m0 fun w hw x hx=>by rw [IZ] at hw;subst hw;exact hy' x hx
 rw [om];refine Jj (wpS_lift (Kd ⟨rfl,?_⟩));refine bw (x:=y) (by rw [hy];rfl) ?_;rw [show (#[F y]:Array Keyed)=arK F [y] from rfl,bH,bH];by_cases c:1=lb.length
 ·rw [IX (by rw [<- c];rfl)];exact Jg (h _ _ (Dd h0 (.inr (by omega))))
 rw [IV (by rw [JD];exact c)];by_cases c:0+1=la.length
 ·rw [IX (by rw [<- c];rfl)];exact Jg (h _ _ (DS hz hz' h0 c))
 rw [IV (by rw [JD];exact c)];refine Jj (Lj ?_);refine Jj (Kf (J3 (I:=fun i (c:Option (Array Keyed)×Array Keyed×Nat×Nat×Nat) st=>c.1=none/\LI F lt κ X pd tot la lb (i+1) c.2.1 c.2.2.1 c.2.2.2.1 st) (Q:=fun (c:Option (Array Keyed)×Array Keyed×Nat×Nat×Nat) st=>∃ r,c.1=some r/\FI F lt κ X pd tot r st) ?_ ?_ ⟨rfl,[y],_,rfl,rfl,IY _,h0,by dsimp only;omega,by dsimp only;omega⟩) ?_)
 ·rintro i ⟨r,out,ia,ib,mg⟩ st _ hi ⟨e,o,g,e1,rfl,hL,hM,ha,hb⟩;dsimp only at e e1 hM ha hb ⊢;subst e e1;refine Jj (Kf (J3 (I:=fun j (c:CL) st=>c.1=none/\LI F lt κ X pd tot la lb (i+1+min j 1) c.2.1 c.2.2.1 c.2.2.2.1 st) (Q:=fun (c:CL) st=>RD F lt κ X pd tot la lb (i+2) c.1 c.2.1 c.2.2.1 c.2.2.2.1 st) ?_ ?_ ⟨rfl,o,_,rfl,rfl,hL,hM,ha,hb⟩) ?_)
  ·rintro j ⟨r,out,ia,ib,ac,bc⟩ st _ hj ⟨e,o,g,e1,rfl,hL,hM,ha,hb⟩;dsimp only at e e1 hM ha hb hL ⊢;subst e e1;refine Kf (BA O nd bd hc (L:=i+2) hz hz' hM ha hb (by omega)) ?_;rintro r st (⟨c,rfl,q⟩ | ⟨c,rfl,e,o,g,q1,q2,q3,q4⟩)
   ·exact q
   ·exact ⟨e,o,g,q1,q2,by omega,q4⟩
  ·rintro ⟨r,out,ia,ib,ac,bc⟩ st ⟨e,o,g,q1,q2,q3,q4⟩;exact .inr ⟨e,o,g,q1,q2,by omega,q4⟩
  ·rintro ⟨r,out,ia,ib,ac,bc⟩ st (⟨r,e,q⟩ | ⟨e,o,g,e1,rfl,hL,hM,ha,hb⟩)
   ·dsimp only at e ⊢;subst e;exact Jg ⟨r,rfl,q⟩
   dsimp only at e e1 hM ha hb hL ⊢;subst e e1;refine Jj (wpS_lift (Kd ⟨rfl,?_⟩));refine Jj (Kf (J3 (I:=fun j (c:CG) st=>c.1=none/\LI F lt κ X pd tot la lb (i+2) c.2.1 c.2.2.1 c.2.2.2.1 st) (Q:=fun (c:CG) st=>RD F lt κ X pd tot la lb (i+2) c.1 c.2.1 c.2.2.1 c.2.2.2.1 st) ?_ ?_ ⟨rfl,o,_,rfl,rfl,hL,hM,ha,hb⟩) ?_)
   ·rintro j ⟨r,out,ia,ib,mg,ac,bc⟩ st _ hj ⟨e,o,g,e1,rfl,hL,hM,ha,hb⟩;dsimp only at e e1 hM ha hb hL ⊢;subst e e1;split
    all_goals
     refine Kf (A8 O nd bd hc (L:=i+2) hz hz' hM ha hb (by omega)) ?_;rintro (c | c) st q
     ·exact q
     ·exact q
   ·rintro ⟨r,out,ia,ib,mg,ac,bc⟩ st ⟨e,q⟩;exact .inr ⟨e,q⟩
   ·rintro ⟨r,out,ia,ib,mg,ac,bc⟩ st (⟨r,e,q⟩ | ⟨e,o,g,e1,rfl,hL,hM,ha,hb⟩)
    ·dsimp only at e ⊢;subst e;exact Jg ⟨r,rfl,q⟩
    dsimp only at e e1 hM ha hb hL ⊢;subst e e1;rw [iM];exact Jj (KN (Jg ⟨rfl,o,_,rfl,rfl,hL,hM,ha,hb⟩))
 ·rintro ⟨r,out,ia,ib,mg⟩ st ⟨e,o,g,e1,rfl,hL,hM,ha,hb⟩;exfalso;have:=hM.len;rw [Kk,Kk] at this;dsimp only at this ha hb;omega
 ·rintro ⟨r,out,ia,ib,mg⟩ st ⟨r,e,q⟩;dsimp only at e ⊢;subst e;exact Jg (h _ _ q)
end
end L2
end
section
namespace L2
open PySem PySem.Spec PyProof.Rows PySem.W
def lQ:Array Keyed->Array Keyed->StateT SortSt Sem (Array Keyed):=sortPriv% PySem.Builtin.mergeHi
abbrev DL:=Option (Array Keyed)×Nat×Nat×Array Keyed×Nat×Nat
abbrev DG:=Option (Array Keyed)×Nat×Nat×Array Keyed×Nat×Nat×Nat
abbrev gA (a b out:Array Keyed) (na nb:Nat):=a.extract 0 na++b.extract 0 nb++out.reverse
abbrev gB (a b out:Array Keyed) (na nb:Nat):=b.extract 0 nb++a.extract 0 na++out.reverse
def hi1 (a b:Array Keyed) (mg:Nat) (c:DL):StateT SortSt Sem (ForInStep DL):=do
 let some aWins<-lt' (<- elem' b (c.2.2.1 - 1)) (<- elem' a (c.2.1 - 1)) | return .done (some (gA a b c.2.2.2.1 c.2.1 c.2.2.1),c.2)
 if aWins then
  let x<-elem' a (c.2.1 - 1)
  if c.2.1 - 1==0 then return .done (some (gA a b (c.2.2.2.1.push x) (c.2.1 - 1) c.2.2.1),c.2.1 - 1,c.2.2.1,c.2.2.2.1.push x,c.2.2.2.2.1+1,0)
  if c.2.2.2.2.1+1>=mg then return .done (none,c.2.1 - 1,c.2.2.1,c.2.2.2.1.push x,c.2.2.2.2.1+1,0)
  return .yield (none,c.2.1 - 1,c.2.2.1,c.2.2.2.1.push x,c.2.2.2.2.1+1,0)
 else
  let x<-elem' b (c.2.2.1 - 1)
  if c.2.2.1 - 1==1 then return .done (some (gB a b (c.2.2.2.1.push x) c.2.1 (c.2.2.1 - 1)),c.2.1,c.2.2.1 - 1,c.2.2.2.1.push x,0,c.2.2.2.2.2+1)
  if c.2.2.2.2.2+1>=mg then return .done (none,c.2.1,c.2.2.1 - 1,c.2.2.2.1.push x,0,c.2.2.2.2.2+1)
  return .yield (none,c.2.1,c.2.2.1 - 1,c.2.2.2.1.push x,0,c.2.2.2.2.2+1)
def hi4 (a b out:Array Keyed) (na nb mg k k1:Nat):StateT SortSt Sem (ForInStep DG):=do
 let x<-elem' a (na - 1)
 if na - 1==0 then return .done (some (gA a b (out.push x) (na - 1) nb),na - 1,nb,out.push x,mg,k,k1)
 if k < 7&&k1 < 7 then return .done (none,na - 1,nb,out.push x,mg,k,k1)
 return .yield (none,na - 1,nb,out.push x,mg,k,k1)
def hi3 (a b out:Array Keyed) (na nb mg k bc:Nat):StateT SortSt Sem (ForInStep DG):=do
 let x<-elem' b (nb - 1)
 if nb - 1==1 then return .done (some (gB a b (out.push x) na (nb - 1)),na,nb - 1,out.push x,mg,k,bc)
 let some k1<-fz true (<- elem' a (na - 1)) b 0 (nb - 1) (nb - 1 - 1) | return .done (some (gA a b (out.push x) na (nb - 1)),na,nb - 1,out.push x,mg,k,bc)
 if nb - 1 - k1 > 0 then
  if k1==1 then return .done (some (gB a b (out.push x++(b.extract k1 (nb - 1)).reverse) na k1),na,k1,out.push x++(b.extract k1 (nb - 1)).reverse,mg,k,nb - 1 - k1)
  else
   if k1==0 then return .done (some (gA a b (out.push x++(b.extract k1 (nb - 1)).reverse) na k1),na,k1,out.push x++(b.extract k1 (nb - 1)).reverse,mg,k,nb - 1 - k1)
   else hi4 a b (out.push x++(b.extract k1 (nb - 1)).reverse) na k1 mg k (nb - 1 - k1)
 else hi4 a b (out.push x) na (nb - 1) mg k (nb - 1 - k1)
def hi2 (a b out:Array Keyed) (na nb mg ac bc:Nat):StateT SortSt Sem (ForInStep DG):=do
 vc mg
 let some k<-fz false (<- elem' b (nb - 1)) a 0 na (na - 1) | return .done (some (gA a b out na nb),na,nb,out,mg,ac,bc)
 if na - k > 0 then
  if k==0 then return .done (some (gA a b (out++(a.extract k na).reverse) k nb),k,nb,out++(a.extract k na).reverse,mg,na - k,bc)
  else hi3 a b (out++(a.extract k na).reverse) k nb mg (na - k) bc
 else hi3 a b out na nb mg (na - k) bc
theorem oE (a b:Array Keyed):lQ a b=(do
 rule "list.sort.merge-hi"
 let x<-elem' a (a.size - 1)
 if a.size - 1==0 then return gA a b #[x] (a.size - 1) b.size
 if b.size==1 then return gB a b #[x] (a.size - 1) b.size
 let st<-get
 let r<-forIn [0:a.size+b.size] ((none,a.size - 1,b.size,#[x],gallopOf st):Option (Array Keyed)×Nat×Nat×Array Keyed×Nat) fun _ c=>do
  let d<-forIn [0:a.size+b.size] ((none,c.2.1,c.2.2.1,c.2.2.2.1,0,0):DL) fun _ c'=>hi1 a b c.2.2.2.2 c'
  match d.1 with
  | some r=>pure (.done (some r,d.2.1,d.2.2.1,d.2.2.2.1,c.2.2.2.2))
  | none=>do
   rule "list.sort.gallop"
   let e<-forIn [0:a.size+b.size] ((none,d.2.1,d.2.2.1,d.2.2.2.1,c.2.2.2.2+1,d.2.2.2.2.1,d.2.2.2.2.2):DG) fun _ c' =>
    if c'.2.2.2.2.1 > 1 then hi2 a b c'.2.2.2.1 c'.2.1 c'.2.2.1 (c'.2.2.2.2.1 - 1) c'.2.2.2.2.2.1 c'.2.2.2.2.2.2
    else hi2 a b c'.2.2.2.1 c'.2.1 c'.2.2.1 c'.2.2.2.2.1 c'.2.2.2.2.2.1 c'.2.2.2.2.2.2
   match e.1 with
   | some r=>pure (.done (some r,e.2.1,e.2.2.1,e.2.2.2.1,e.2.2.2.2.1))
   | none=>do
    vc (e.2.2.2.2.1+1)
    pure (.yield (none,e.2.1,e.2.2.1,e.2.2.2.1,e.2.2.2.2.1+1))
 match r.1 with
 | some r=>pure r
 | none=>unsupported "internal:list.sort.merge-bound"):=by
 unfold lQ;refine bindC rfl fun _=>?_;dsimp only;refine Kw fun x=>?_;congr 1;congr 1;refine Kw fun st=>?_;have:∀ {α β:Type} {m m':StateT SortSt Sem α} {f f':α->StateT SortSt Sem β},m=m'->f=f'->(m>>=f)=(m'>>=f'):=by rintro _ _ _ _ _ _ rfl rfl;rfl
 refine this ?_ ?_
 ·congr 1;funext _ c;refine this ?_ ?_
  ·congr 1
  ·funext d;cases d.1 with
   | some=>rfl
   | none =>
    dsimp only;refine Kw fun _=>?_;refine this ?_ ?_
    ·congr 1
    ·funext d;cases d.1 <;> rfl
 ·funext r;cases r.1 <;> rfl
end L2
end
section
namespace L2
open PySem PySem.Spec PyProof.Rows PySem.W
section
variable {M:Model} {E:Value->Shared->Prop} {Ar:Around} {s:Shared} {F:Nat->Keyed} {lt:Nat->Nat->Bool} {N:Nat} {κ:SortKind} {X:Array Keyed} {pd:Array (Nat×Nat×Nat)} {la lb tot:List Nat}
theorem Ord.flip (O:Ord lt N):Ord (fun x y=>lt y x) N:=⟨O.irr,fun i j k a b=>O.tr _ _ _ b a,fun i j hi hj hn e=>O.tot j i hj hi (Ne.symm hn) e⟩
abbrev tkR (l:List Nat) (n:Nat):List Nat:=(l.take n).reverse
theorem iB {l:List Nat} {n x:Nat} (hn:0 < n) (h:l[n - 1]?=some x):tkR l n=x :: tkR l (n - 1):=by
 obtain ⟨m,rfl⟩:∃ m,n=m+1:=⟨n - 1,by omega⟩;rw [Nat.add_sub_cancel] at h ⊢;obtain ⟨hi,e⟩:=IL.mp h;unfold tkR;rw [List.take_add_one,h,List.reverse_append];rfl
theorem tU {l:List Nat} {n:Nat} (h:n<=l.length):(tkR l n).length=n:=by rw [Ko,JN];omega
theorem kT {l S1 S2:List Nat} {n:Nat} (h:l.take n=S1++S2):l.take S1.length=S1:=by
 have:(l.take n).take S1.length=S1:=by rw [h,List.take_left]
 rw [List.take_take] at this;have e:S1.length<=n:=by
  have h2:=congrArg List.length h;rw [JN,IJ] at h2;omega
 rwa [Nat.min_eq_left e] at this
theorem oP {l S1 S2:List Nat} {n:Nat} (h:l.take n=S1++S2):tkR l n=S2.reverse++tkR l S1.length:=by
 unfold tkR;rw [kT h,h,List.reverse_append]
theorem x6 {l S1 S2:List Nat} {n:Nat} (h:l.take n=S1++S2):((arK F l).extract S1.length n).reverse=arK F S2.reverse:=by
 rw [qk,<-List.drop_take,h,K6,sH]
def HI (F:Nat->Keyed) (lt:Nat->Nat->Bool) (κ:SortKind) (X:Array Keyed) (pd:Array (Nat×Nat×Nat)) (tot la lb:List Nat) (L:Nat) (out:Array Keyed) (na nb:Nat) (st:SortSt):Prop :=
 ∃ o g,out=arK F o/\st=SortSt.mk' κ X pd g none/\L<=o.length/\Mg (fun x y=>lt y x) tot o (tkR la na) (tkR lb nb)/\(0 < na/\na<=la.length)/\1 < nb/\nb<=lb.length
def HD (F:Nat->Keyed) (lt:Nat->Nat->Bool) (κ:SortKind) (X:Array Keyed) (pd:Array (Nat×Nat×Nat)) (tot la lb:List Nat) (L:Nat) (c:Option (Array Keyed)) (out:Array Keyed) (na nb:Nat) (st:SortSt):Prop :=
 (∃ r,c=some r/\FI F lt κ X pd tot r st)\/(c=none/\HI F lt κ X pd tot la lb L out na nb st)
def HG (F:Nat->Keyed) (lt:Nat->Nat->Bool) (κ:SortKind) (X:Array Keyed) (pd:Array (Nat×Nat×Nat)) (tot la lb:List Nat) (L:Nat):ForInStep DG->SortSt->Prop
 | .done c,st=>HD F lt κ X pd tot la lb L c.1 c.2.2.2.1 c.2.1 c.2.2.1 st
 | .yield c,st=>c.1=none/\HI F lt κ X pd tot la lb L c.2.2.2.1 c.2.1 c.2.2.1 st
theorem xt {o A B:List Nat}:(A++B++o.reverse).Perm (o++(A.reverse++B.reverse)) :=
 List.perm_append_comm.trans (List.Perm.append (KR _) (List.Perm.append (KR _).symm (KR _).symm))
theorem ye {o A:List Nat} (h:(o++A.reverse).Pairwise fun x y=>lt y x=true):(A++o.reverse).Pairwise fun x y=>lt x y=true:=by
 have:=Kl.mpr h
 rwa [List.reverse_append,List.reverse_reverse] at this
theorem ui {o:List Nat} {na nb g:Nat} (h:Mg (fun x y=>lt y x) tot o (tkR la na) (tkR lb nb)) (e:na=0\/nb=0):FI F lt κ X pd tot (gA (arK F la) (arK F lb) (arK F o) na nb) (SortSt.mk' κ X pd g none):=by
 refine ⟨la.take na++lb.take nb++o.reverse,g,by unfold gA;rw [qc,qc,sH,dY,dY],rfl,?_,xt.trans h.pm⟩;rcases e with rfl | rfl
 ·rw [List.take_zero,List.nil_append];exact ye h.sb
 ·rw [List.take_zero,JV];exact ye h.sa
theorem vC {o:List Nat} {na nb g y:Nat} (hy:lb[0]?=some y) (hy':∀ x∈la,lt y x=true) (h:Mg (fun x y=>lt y x) tot o (tkR la na) (tkR lb nb)) (e:nb=1):FI F lt κ X pd tot (gB (arK F la) (arK F lb) (arK F o) na nb) (SortSt.mk' κ X pd g none):=by
 subst e;have ey:tkR lb 1=[y]:=by rw [iB Nat.one_pos hy];unfold tkR;rfl
 refine ⟨lb.take 1++la.take na++o.reverse,g,by unfold gB;rw [qc,qc,sH,dY,dY],rfl,?_,xt.trans h.symm.pm⟩;rw [<- JV (tkR la na)] at h
 have h2:=(h.left fun x hx w hw=>by
  rw [ey,IZ] at hw;subst hw
  exact hy' x (List.mem_of_mem_take (J4.mp hx))).sb
 have:=Kl.mpr h2;unfold tkR at this;simpa only [List.reverse_append,List.reverse_reverse,Jl] using this
theorem xP {o:List Nat} {na nb mg k k1 x g L:Nat} (h:Mg (fun x y=>lt y x) tot o (tkR la na) (tkR lb nb)) (ha:0 < na/\na<=la.length) (hb:1 < nb/\nb<=lb.length) (hx:la[na - 1]?=some x) (q:∀ y∈tkR lb nb,lt y x=true) (hL:L<=o.length+1) :
  wpS M Ar E s (hi4 (arK F la) (arK F lb) (arK F o) na nb mg k k1) (HG F lt κ X pd tot la lb L) (SortSt.mk' κ X pd g none):=by
 unfold hi4;refine bw hx ?_;rw [d8];have h':Mg (fun x y=>lt y x) tot (o++[x]) (tkR la (na - 1)) (tkR lb nb):=by
  rw [iB ha.1 hx] at h;exact Mg.left (A1:=[x]) h fun w hw y hy=>by rw [IZ] at hw;subst hw;exact q y hy
 have hL':L<=(o++[x]).length:=by rw [IJ];exact hL
 by_cases c:na - 1=0
 ·rw [IX (by rw [c];rfl)];exact Jg (.inl ⟨_,rfl,ui h' (.inl c)⟩)
 ·rw [IV (by rw [JD];exact c)];split
  ·exact Jg (.inr ⟨rfl,_,_,rfl,rfl,hL',h',by dsimp only;omega,hb⟩)
  ·exact Jg ⟨rfl,_,_,rfl,rfl,hL',h',by dsimp only;omega,hb⟩
variable (O:Ord lt N) (nd:tot.Nodup) (bd:∀ x∈tot,x < N) (hc:Cmp M Ar E s F lt N κ)
include O nd bd hc
theorem xr {o:List Nat} {na nb mg k bc y y0 g L:Nat} (hy0:lb[0]?=some y0) (hy0':∀ x∈la,lt y0 x=true) (h:Mg (fun x y=>lt y x) tot o (tkR la na) (tkR lb nb)) (ha:0 < na/\na<=la.length) (hb:1 < nb/\nb<=lb.length) (hy:lb[nb - 1]?=some y) (q:∀ x∈tkR la na,lt x y=true) (hL:L<=o.length+1) :
  wpS M Ar E s (hi3 (arK F la) (arK F lb) (arK F o) na nb mg k bc) (HG F lt κ X pd tot la lb L) (SortSt.mk' κ X pd g none):=by
 unfold hi3;refine bw hy ?_;rw [d8];have h':Mg (fun x y=>lt y x) tot (o++[y]) (tkR la na) (tkR lb (nb - 1)):=by
  rw [iB (by omega) hy] at h;exact Mg.right (B1:=[y]) h fun w hw v hv=>by rw [IZ] at hw;subst hw;exact q v hv
 have hL':L<=(o++[y]).length:=by rw [IJ];exact hL
 by_cases c:nb - 1=1
 ·rw [IX (by rw [c];rfl)];exact Jg (.inl ⟨_,rfl,vC hy0 hy0' h' c⟩)
 ·rw [IV (by rw [JD];exact c)];obtain ⟨x,hx⟩:∃ x,la[na - 1]?=some x:=⟨_,II (by omega)⟩;refine bw hx ?_;have ex:=iB ha.1 hx;have hxm:x∈tkR la na:=by rw [ex];exact IU ..
  have sb:=(Jh.mp h'.sb).2.1;refine Jj (q0 (S:=lb.take (nb - 1)) O hc rfl (by rw [K5]) (by rw [JN];omega) (by have:=Kl.mpr sb;unfold tkR at this;rwa [List.reverse_reverse] at this) (fun w hw=>bd _ (h'.inB (J4.mpr hw))) (bd _ (h'.inA hxm)) (by omega) fun S1 S2 eS q1 q2=>?_);dsimp only;have hl:S1.length+S2.length=nb - 1:=by rw [<- IJ,<-eS,JN];omega
  have q2':∀ w∈S2.reverse,lt x w=true:=fun w hw=>by
   have:=q2 w (J4.mp hw);rw [IX rfl] at this;exact Mg.les (lt:=fun x y=>lt y x) O.flip nd bd h'.symm (by rw [oP eS];exact Jq _ hw) hxm this
  have h2:Mg (fun x y=>lt y x) tot (o++[y]++S2.reverse) (tkR la na) (tkR lb S1.length):=by
   rw [oP eS] at h';refine h'.right ?_;rw [ex] at h' ⊢;exact h'.symm.low O.flip fun w hw=>q2' w hw
  have q1':∀ w∈tkR lb S1.length,lt w x=true:=fun w hw=>by
   unfold tkR at hw;rw [kT eS,J4] at hw;exact q1 w hw
  by_cases c2:nb - 1 - S1.length > 0
  ·rw [IX c2,x6 eS,dY];by_cases c3:S1.length=1
   ·rw [IX (by rw [c3];rfl)];exact Jg (.inl ⟨_,rfl,vC hy0 hy0' h2 c3⟩)
   ·rw [IV (by rw [JD];exact c3)];by_cases c4:S1.length=0
    ·rw [IX (by rw [c4];rfl)];exact Jg (.inl ⟨_,rfl,ui h2 (.inr c4)⟩)
    ·rw [IV (by rw [JD];exact c4)];exact xP h2 ha (by omega) hx q1' (by rw [IJ];omega)
  ·rw [IV c2];have e0:S1.length=nb - 1:=by omega
   rw [e0] at q1';exact xP h' ha (by omega) hx q1' (by omega)
theorem Ap {o:List Nat} {na nb mg ac bc y0 g L:Nat} (hy0:lb[0]?=some y0) (hy0':∀ x∈la,lt y0 x=true) (h:Mg (fun x y=>lt y x) tot o (tkR la na) (tkR lb nb)) (ha:0 < na/\na<=la.length) (hb:1 < nb/\nb<=lb.length) (hL:L<=o.length+1) :
  wpS M Ar E s (hi2 (arK F la) (arK F lb) (arK F o) na nb mg ac bc) (HG F lt κ X pd tot la lb L) (SortSt.mk' κ X pd g none):=by
 unfold hi2;rw [iM];refine Jj (KN ?_);obtain ⟨y,hy⟩:∃ y,lb[nb - 1]?=some y:=⟨_,II (by omega)⟩;refine bw hy ?_;have ey:=iB (by omega) hy;have hym:y∈tkR lb nb:=by rw [ey];exact IU ..
 have sa:=(Jh.mp h.sa).2.1;refine Jj (q0 (S:=la.take na) O hc rfl (by rw [K5]) (by rw [JN];omega) (by have:=Kl.mpr sa;unfold tkR at this;rwa [List.reverse_reverse] at this) (fun w hw=>bd _ (h.inA (J4.mpr hw))) (bd _ (h.inB hym)) (by omega) fun S1 S2 eS q1 q2=>?_);dsimp only;have hl:S1.length+S2.length=na:=by rw [<- IJ,<-eS,JN];omega
 have q1':∀ w∈tkR la S1.length,lt w y=true:=fun w hw=>by
  unfold tkR at hw;rw [kT eS,J4] at hw;have:=q1 w hw;rw [IV Jf,La] at this;exact Mg.les (lt:=fun x y=>lt y x) O.flip nd bd h.symm hym (by rw [J4,eS];exact Jq _ hw) this
 have q2':∀ w∈S2.reverse,lt y w=true:=fun w hw=>by
  have:=q2 w (J4.mp hw)
  rwa [IV Jf,Bool.not_eq_false'] at this
 have h2:Mg (fun x y=>lt y x) tot (o++S2.reverse) (tkR la S1.length) (tkR lb nb):=by
  rw [oP eS] at h;refine h.left ?_;rw [ey] at h ⊢;exact h.low O.flip q2'
 by_cases c2:na - S1.length > 0
 ·rw [IX c2,x6 eS,dY];by_cases c3:S1.length=0
  ·rw [IX (by rw [c3];rfl)];exact Jg (.inl ⟨_,rfl,ui h2 (.inl c3)⟩)
  ·rw [IV (by rw [JD];exact c3)];exact xr O nd bd hc hy0 hy0' h2 (by omega) hb hy q1' (by rw [IJ];omega)
 ·rw [IV c2];have e0:S1.length=na:=by omega
  rw [e0] at q1';exact xr O nd bd hc hy0 hy0' h ha hb hy q1' hL
theorem C2 {o:List Nat} {na nb mg ac bc y0 g L:Nat} (hy0:lb[0]?=some y0) (hy0':∀ x∈la,lt y0 x=true) (h:Mg (fun x y=>lt y x) tot o (tkR la na) (tkR lb nb)) (ha:0 < na/\na<=la.length) (hb:1 < nb/\nb<=lb.length) (hL:L<=o.length+1) :
  wpS M Ar E s (hi1 (arK F la) (arK F lb) mg (none,na,nb,arK F o,ac,bc)) (fun r st=>(∃ c,r=.done c/\HD F lt κ X pd tot la lb L c.1 c.2.2.2.1 c.2.1 c.2.2.1 st)\/∃ c,r=.yield c/\c.1=none/\HI F lt κ X pd tot la lb L c.2.2.2.1 c.2.1 c.2.2.1 st) (SortSt.mk' κ X pd g none):=by
 unfold hi1;obtain ⟨y,hy⟩:∃ y,lb[nb - 1]?=some y:=⟨_,II (by omega)⟩;obtain ⟨x,hx⟩:∃ x,la[na - 1]?=some x:=⟨_,II (by omega)⟩;have ex:=iB ha.1 hx;have ey:=iB (by omega) hy;have hxm:x∈tkR la na:=by rw [ex];exact IU ..
 have hym:y∈tkR lb nb:=by rw [ey];exact IU ..
 dsimp only;refine bw hy (bw hx (Jj (hc _ _ _ _ rfl (bd _ (h.inB hym)) (bd _ (h.inA hxm)) ?_)));dsimp only;cases e:lt y x with
 | true =>
  rw [IX rfl];refine bw hx ?_;rw [d8];have h':Mg (fun x y=>lt y x) tot (o++[x]) (tkR la (na - 1)) (tkR lb nb):=by
   rw [ex] at h;refine Mg.left (A1:=[x]) h ?_;rw [ey] at h ⊢;exact h.symm.wL O.flip e
  have hL':L<=(o++[x]).length:=by rw [IJ];exact hL
  by_cases c:na - 1=0
  ·rw [IX (by rw [c];rfl)];exact Jg (.inl ⟨_,rfl,.inl ⟨_,rfl,ui h' (.inl c)⟩⟩)
  ·rw [IV (by rw [JD];exact c)];split
   ·exact Jg (.inl ⟨_,rfl,.inr ⟨rfl,_,_,rfl,rfl,hL',h',by dsimp only;omega,hb⟩⟩)
   ·exact Jg (.inr ⟨_,rfl,rfl,_,_,rfl,rfl,hL',h',by dsimp only;omega,hb⟩)
 | false =>
  rw [IV Jf];refine bw hy ?_;rw [d8];have e':=Mg.les (lt:=fun x y=>lt y x) O.flip nd bd h.symm hym hxm e;have h':Mg (fun x y=>lt y x) tot (o++[y]) (tkR la na) (tkR lb (nb - 1)):=by
   rw [ey] at h;refine Mg.right (B1:=[y]) h ?_;rw [ex] at h ⊢;exact h.wL O.flip e'
  have hL':L<=(o++[y]).length:=by rw [IJ];exact hL
  by_cases c:nb - 1=1
  ·rw [IX (by rw [c];rfl)];exact Jg (.inl ⟨_,rfl,.inl ⟨_,rfl,vC hy0 hy0' h' c⟩⟩)
  ·rw [IV (by rw [JD];exact c)];split
   ·exact Jg (.inl ⟨_,rfl,.inr ⟨rfl,_,_,rfl,rfl,hL',h',ha,by dsimp only;omega⟩⟩)
   ·exact Jg (.inr ⟨_,rfl,rfl,_,_,rfl,rfl,hL',h',ha,by dsimp only;omega⟩)
theorem uj {g z y0:Nat} {Q:Array Keyed->SortSt->Prop} (hz:la[la.length - 1]?=some z) (hz':∀ y∈lb,lt y z=true) (hy0:lb[0]?=some y0) (hy0':∀ x∈la,lt y0 x=true) (sa:la.Pairwise fun x y=>lt x y=true) (sb:lb.Pairwise fun x y=>lt x y=true) (et:tot=la++lb)
  (h:∀ r st,FI F lt κ X pd tot r st->Q r st):wpS M Ar E s (lQ (arK F la) (arK F lb)) Q (SortSt.mk' κ X pd g none):=by
 have hal:1<=la.length:=by
  rcases Nat.eq_zero_or_pos la.length with e | e
  ·rw [Jv e] at hz;cases hz
  ·exact e
 have hbl:1<=lb.length:=by
  rcases Nat.eq_zero_or_pos lb.length with e | e
  ·rw [Jv e] at hy0;cases hy0
  ·exact e
 have hl:tot.length=la.length+lb.length:=by rw [et,IJ]
 have h0:Mg (fun x y=>lt y x) tot [z] (tkR la (la.length - 1)) (tkR lb lb.length):=by
  have m0:Mg (fun x y=>lt y x) tot [] (tkR la la.length) (tkR lb lb.length):=by
   unfold tkR;rw [Kz,Kz];exact ⟨Kl.mpr sa,Kl.mpr sb,by rw [et,List.nil_append];exact List.Perm.append (KR _) (KR _)⟩
  rw [iB hal hz] at m0;refine Mg.left (A1:=[z]) m0 fun w hw x hx=>?_;rw [IZ] at hw;subst hw;unfold tkR at hx;rw [Kz,J4] at hx;exact hz' x hx
 rw [oE];refine Jj (wpS_lift (Kd ⟨rfl,?_⟩));rw [bH,bH];refine bw hz ?_;rw [show (#[F z]:Array Keyed)=arK F [z] from rfl];by_cases c:la.length - 1=0
 ·rw [IX (by rw [c];rfl)];exact Jg (h _ _ (ui h0 (.inl c)))
 rw [IV (by rw [JD];exact c)];by_cases c:lb.length=1
 ·rw [IX (by rw [c];rfl)];exact Jg (h _ _ (vC hy0 hy0' h0 c))
 rw [IV (by rw [JD];exact c)];refine Jj (Lj ?_);refine Jj (Kf (J3 (I:=fun i (c:Option (Array Keyed)×Nat×Nat×Array Keyed×Nat) st=>c.1=none/\HI F lt κ X pd tot la lb (i+1) c.2.2.2.1 c.2.1 c.2.2.1 st) (Q:=fun (c:Option (Array Keyed)×Nat×Nat×Array Keyed×Nat) st=>∃ r,c.1=some r/\FI F lt κ X pd tot r st) ?_ ?_ ⟨rfl,[z],_,rfl,rfl,IY _,h0,by dsimp only;omega,by dsimp only;omega⟩) ?_)
 ·rintro i ⟨r,na,nb,out,mg⟩ st _ hi ⟨e,o,g,e1,rfl,hL,hM,ha,hb⟩;dsimp only at e e1 hM ha hb ⊢;subst e e1;refine Jj (Kf (J3 (I:=fun j (c:DL) st=>c.1=none/\HI F lt κ X pd tot la lb (i+1+min j 1) c.2.2.2.1 c.2.1 c.2.2.1 st) (Q:=fun (c:DL) st=>HD F lt κ X pd tot la lb (i+2) c.1 c.2.2.2.1 c.2.1 c.2.2.1 st) ?_ ?_ ⟨rfl,o,_,rfl,rfl,hL,hM,ha,hb⟩) ?_)
  ·rintro j ⟨r,na,nb,out,ac,bc⟩ st _ hj ⟨e,o,g,e1,rfl,hL,hM,ha,hb⟩;dsimp only at e e1 hM ha hb hL ⊢;subst e e1;refine Kf (C2 O nd bd hc (L:=i+2) hy0 hy0' hM ha hb (by omega)) ?_;rintro r st (⟨c,rfl,q⟩ | ⟨c,rfl,e,o,g,q1,q2,q3,q4⟩)
   ·exact q
   ·exact ⟨e,o,g,q1,q2,by omega,q4⟩
  ·rintro ⟨r,na,nb,out,ac,bc⟩ st ⟨e,o,g,q1,q2,q3,q4⟩;exact .inr ⟨e,o,g,q1,q2,by omega,q4⟩
  ·rintro ⟨r,na,nb,out,ac,bc⟩ st (⟨r,e,q⟩ | ⟨e,o,g,e1,rfl,hL,hM,ha,hb⟩)
   ·dsimp only at e ⊢;subst e;exact Jg ⟨r,rfl,q⟩
   dsimp only at e e1 hM ha hb hL ⊢;subst e e1;refine Jj (wpS_lift (Kd ⟨rfl,?_⟩));refine Jj (Kf (J3 (I:=fun j (c:DG) st=>c.1=none/\HI F lt κ X pd tot la lb (i+2) c.2.2.2.1 c.2.1 c.2.2.1 st) (Q:=fun (c:DG) st=>HD F lt κ X pd tot la lb (i+2) c.1 c.2.2.2.1 c.2.1 c.2.2.1 st) ?_ ?_ ⟨rfl,o,_,rfl,rfl,hL,hM,ha,hb⟩) ?_)
   ·rintro j ⟨r,na,nb,out,mg,ac,bc⟩ st _ hj ⟨e,o,g,e1,rfl,hL,hM,ha,hb⟩;dsimp only at e e1 hM ha hb hL ⊢;subst e e1;split
    all_goals
     refine Kf (Ap O nd bd hc (L:=i+2) hy0 hy0' hM ha hb (by omega)) ?_;rintro (c | c) st q
     ·exact q
     ·exact q
   ·rintro ⟨r,na,nb,out,mg,ac,bc⟩ st ⟨e,q⟩;exact .inr ⟨e,q⟩
   ·rintro ⟨r,na,nb,out,mg,ac,bc⟩ st (⟨r,e,q⟩ | ⟨e,o,g,e1,rfl,hL,hM,ha,hb⟩)
    ·dsimp only at e ⊢;subst e;exact Jg ⟨r,rfl,q⟩
    dsimp only at e e1 hM ha hb hL ⊢;subst e e1;rw [iM];exact Jj (KN (Jg ⟨rfl,o,_,rfl,rfl,hL,hM,ha,hb⟩))
 ·rintro ⟨r,na,nb,out,mg⟩ st ⟨e,o,g,e1,rfl,hL,hM,ha,hb⟩;exfalso;have:=hM.len;dsimp only at this ha hb;rw [tU ha.2,tU hb.2] at this;omega
 ·rintro ⟨r,na,nb,out,mg⟩ st ⟨r,e,q⟩;dsimp only at e ⊢;subst e;exact Jg (h _ _ q)
end
end L2
end
section
namespace L2
open PySem PySem.Spec PyProof.Rows PySem.W
def putAll (n:Nat) (a:Array Keyed) (m:List (Keyed×Nat)):Array Keyed:=m.foldl (fun a p=>a.setIfInBounds (n+p.2) p.1) a
theorem lU {n:Nat}:∀ (m U P T:List Keyed) (k:Nat) (a:Array Keyed),a.toList=P++U++T->P.length=n+k->U.length=m.length->(putAll n a (m.zipIdx k)).toList=P++m++T
 | [],[],P,T,k,a,h,_,_=>h
 | p :: m,u :: U,P,T,k,a,h,e,el=>by
  rw [List.zipIdx_cons];show (putAll n (a.setIfInBounds (n+k) p) (m.zipIdx (k+1))).toList=_;rw [lU m U (P++[p]) T (k+1) _ (by rw [Array.toList_setIfInBounds,h,<-e];simp) (by rw [IJ,e];rfl) (by simpa using el)];simp
 | [],u :: U,P,T,k,a,h,_,el=>by cases el
 | p :: m,[],P,T,k,a,h,_,el=>by cases el
theorem uf {F:Nat->Keyed} {P U T o:List Nat} (h:U.length=o.length):putAll P.length (arK F (P++U++T)) (arK F o).toList.zipIdx=arK F (P++o++T):=by
 apply Array.toList_inj.mp;rw [lU (arK F o).toList (U.map F) (P.map F) (T.map F) 0 _ (by simp [arK]) (by simp) (by simp [arK,h])];simp [arK]
section
variable {M:Model} {E:Value->Shared->Prop} {Ar:Around} {s:Shared} {F:Nat->Keyed} {lt:Nat->Nat->Bool} {N:Nat} {κ:SortKind} {pd:Array (Nat×Nat×Nat)}
theorem zy {σ:Type} {st st':σ} {Q:PUnit->σ->Prop} (h:Q ⟨⟩ st'):wpS M Ar E s (set st':StateT σ Sem PUnit) Q st:=by
 unfold wpS;rw [StateT.run_set];exact IQ ⟨rfl,h⟩
theorem pw_last {l:List Nat} {z:Nat} (hp:l.Pairwise fun x y=>lt x y=true) (hz:l[l.length - 1]?=some z) {x:Nat} (hx:x∈l):x=z\/lt x z=true:=by
 obtain ⟨i,hi,e⟩:=List.mem_iff_getElem.mp hx;obtain ⟨h1,e1⟩:=IL.mp hz;by_cases c:i=l.length - 1
 ·subst c;exact .inl (e.symm.trans e1)
 ·exact .inr (by have:=J7.mp hp i (l.length - 1) hi h1 (by omega);rwa [e,e1] at this)
theorem sQ {pre X Y post:List Nat} {i g pw pw2:Nat} {Q:Bool->SortSt->Prop} (O:Ord lt N) (nd:(X++Y).Nodup) (bd:∀ x∈X++Y,x < N) (hc:Cmp M Ar E s F lt N κ)
  (h1:pd[i]?=some (pre.length,X.length,pw)) (h2:pd[i+1]?=some (pre.length+X.length,Y.length,pw2)) (hX:X≠[]) (hY:Y≠[]) (sX:X.Pairwise fun x y=>lt x y=true) (sY:Y.Pairwise fun x y=>lt x y=true)
  (h:∀ Z g,Z.Pairwise (fun x y=>lt x y=true)->Z.Perm (X++Y)->Q true (SortSt.mk' κ (arK F (pre++Z++post)) ((pd.setIfInBounds i (pre.length,X.length+Y.length,pw)).eraseIdxIfInBounds (i+1)) g none)) :
  wpS M Ar E s (mergeAt' i) Q (SortSt.mk' κ (arK F (pre++(X++Y)++post)) pd g none):=by
 obtain ⟨y0,Y',rfl⟩:∃ y0 Y',Y=y0 :: Y':=by cases Y with | nil=>exact absurd rfl hY | cons a b=>exact ⟨a,b,rfl⟩
 have hXl:0 < X.length:=List.length_pos_iff.mpr hX;have dis:∀ x∈X,∀ y∈y0 :: Y',x≠y:=fun x hx y hy=>(JQ.mp nd).2.2 x hx y hy;have bX:∀ x∈X,x < N:=fun x hx=>bd x (Jq _ hx);have bY:∀ x∈y0 :: Y',x < N:=fun x hx=>bd x (IS _ hx);have hy0:∀ y∈y0 :: Y',y0=y\/lt y0 y=true:=fun y hy=>by
  rcases Jo.mp hy with rfl | hy
  ·exact .inl rfl
  ·exact .inr ((J9.mp sY).1 _ hy)
 have up:∀ {x y:Nat},lt x y0=true->y∈y0 :: Y'->lt x y=true:=fun e hy=>by
  rcases hy0 _ hy with rfl | z
  ·exact e
  ·exact O.tr _ _ _ e z
 unfold mergeAt';refine Jj (Lj ?_);dsimp only [SortSt.mk'];rw [h1,h2];dsimp only;refine Jj (zy ?_);refine bw (x:=y0) (by rw [Jl,IP (by omega),Jl,IP (by omega)];simp) ?_;refine Jj (q0 (S:=X) O hc rfl (by simp) rfl sX bX (bY _ (IU ..)) hXl fun X1 X2 eX q1 q2=>?_);dsimp only;have q1':∀ x∈X1,lt x y0=true:=fun x hx=>by
  have:=q1 x hx;rw [IV Jf,La] at this;have hx':x∈X:=by rw [eX];exact Jq _ hx
  exact O.tot _ _ (bY _ (IU ..)) (bX _ hx') (Ne.symm (dis _ hx' _ (IU ..))) this
 have q2':∀ x∈X2,lt y0 x=true:=fun x hx=>by
  have:=q2 x hx
  rwa [IV Jf,Bool.not_eq_false'] at this
 have hl:X.length=X1.length+X2.length:=by rw [eX,IJ]
 rw [show X.length - X1.length=X2.length by omega];by_cases c:X2.length=0
 ·rw [IX (by rw [c];rfl)];have e0:=Jv c;subst e0;rw [JV] at eX;subst eX;exact Jg (h _ _ (Jh.mpr ⟨sX,sY,fun x hx y hy=>up (q1' x hx) hy⟩) (Ks _))
 rw [IV (by rw [JD];exact c)];obtain ⟨z,hz⟩:∃ z,X2[X2.length - 1]?=some z:=⟨_,II (by omega)⟩;have hzm:z∈X2:=Jn hz;have hzX:z∈X:=by rw [eX];exact IS _ hzm
 have sX2:X2.Pairwise fun x y=>lt x y=true:=by rw [eX] at sX;exact (Jh.mp sX).2.1
 refine bw (x:=z) (by rw [eX,show pre.length+X1.length+X2.length - 1=pre.length+(X1.length+(X2.length - 1)) by omega,Jl,IP (by omega),Kr,Jl,Jl,IP (by omega),Kr,Je (by omega)];exact hz) ?_;refine Jj (q0 (S:=y0 :: Y') O hc rfl (by rw [<- Jl,<-IJ,Jl,K6,List.take_left]) rfl sY bY (bX _ hzX) (by simp) fun Y1 Y2 eY r1 r2=>?_);dsimp only;have r2':∀ y∈Y2,lt z y=true:=fun y hy=>by
  have:=r2 y hy;rw [IX rfl] at this;have hy':y∈y0 :: Y':=by rw [eY];exact IS _ hy
  exact O.tot _ _ (bY _ hy') (bX _ hzX) (Ne.symm (dis _ hzX _ hy')) this
 have zup:∀ x∈X2,∀ y∈Y2,lt x y=true:=fun x hx y hy=>by
  rcases pw_last sX2 hz hx with rfl | e
  ·exact r2' y hy
  ·exact O.tr _ _ _ e (r2' y hy)
 by_cases c1:Y1.length=0
 ·exfalso;have e0:=Jv c1;subst e0;rw [List.nil_append] at eY;have a1:=r2' y0 (by rw [<- eY];exact IU ..);have a2:=O.tr _ _ _ a1 (q2' z hzm);rw [O.irr] at a2;exact absurd a2 (by decide)
 rw [IV (by rw [JD];exact c1)];obtain ⟨B,eB⟩:∃ B,Y1=y0 :: B:=by
  cases Y1 with
  | nil=>exact absurd rfl c1
  | cons a b=>exact ⟨b,by rw [Lh] at eY;rw [(List.cons.inj eY).1]⟩
 have ex:(arK F (pre++(X++y0 :: Y')++post)).extract (pre.length+X1.length) (pre.length+X.length)=arK F X2:=by
  rw [qk,eX,show pre.length+(X1++X2).length - (pre.length+X1.length)=X2.length by rw [IJ];omega];congr 1;rw [<- IJ,show pre++(X1++X2++y0 :: Y')++post=(pre++X1)++(X2++(y0 :: Y'++post)) by simp,K6,List.take_left]
 have ey:(arK F (pre++(X++y0 :: Y')++post)).extract (pre.length+X.length) (pre.length+X.length+Y1.length)=arK F Y1:=by
  rw [qk,Kr,eY];congr 1;rw [<- IJ,show pre++(X++(Y1++Y2))++post=(pre++X)++(Y1++(Y2++post)) by simp,K6,List.take_left]
 rw [ex,ey];have sY1:=sY;rw [eY] at sY1;have hz':∀ y∈Y1,lt y z=true:=fun y hy=>by have:=r1 y hy;rwa [IX rfl] at this
 have nd2:(X2++Y1).Nodup:=by
  rw [eX,eY,Jl] at nd;have n2:=(JQ.mp nd).2.1;rw [<- Jl] at n2;exact (JQ.mp n2).1
 have bd2:∀ x∈X2++Y1,x < N:=fun x hx=>by
  rcases Jx.mp hx with hx | hx
  ·exact bX x (by rw [eX];exact IS _ hx)
  ·exact bY x (by rw [eY];exact Jq _ hx)
 have fin:∀ (r:Array Keyed) (st:SortSt),FI F lt κ (arK F (pre++(X++y0 :: Y')++post)) ((pd.setIfInBounds i (pre.length,X.length+(y0 :: Y').length,pw)).eraseIdxIfInBounds (i+1)) (X2++Y1) r st ->
   wpS M Ar E s (do
    modify fun s=>setArr s (putAll (pre.length+X1.length) (arrOf s) r.toList.zipIdx)
    let st<-get
    pure (failedOf st).isNone) Q st:=by
  rintro _ _ ⟨o,g,rfl,rfl,so,po⟩;refine Jj (KN (Jj (Lj (Jg ?_))));show Q true (SortSt.mk' κ (putAll (pre.length+X1.length) (arK F (pre++(X++y0 :: Y')++post)) (arK F o).toList.zipIdx) _ g none);have e1:putAll (pre.length+X1.length) (arK F (pre++(X++y0 :: Y')++post)) (arK F o).toList.zipIdx=arK F (pre++(X1++o++Y2)++post):=by
   rw [<- IJ,eX,eY,show pre++(X1++X2++(Y1++Y2))++post=(pre++X1)++(X2++Y1)++(Y2++post) by simp,uf po.length_eq.symm];simp
  rw [e1];refine h _ _ ?_ ?_
  ·have sX':=sX;rw [eX] at sX';rw [Jl];refine Jh.mpr ⟨(Jh.mp sX').1,Jh.mpr ⟨so,(Jh.mp sY1).2.1,fun x hx y hy=>?_⟩,fun x hx y hy=>?_⟩
   ·rcases Jx.mp (po.mem_iff.mp hx) with hx | hx
    ·exact zup x hx y hy
    ·exact (Jh.mp sY1).2.2 x hx y hy
   ·rcases Jx.mp hy with hy | hy
    ·rcases Jx.mp (po.mem_iff.mp hy) with hy | hy
     ·exact (Jh.mp sX').2.2 x hx y hy
     ·exact up (q1' x hx) (by rw [eY];exact Jq _ hy)
    ·exact up (q1' x hx) (by rw [eY];exact IS _ hy)
  ·rw [eX,eY,Jl,Jl];refine Kv _ ?_;rw [<- Jl];exact List.Perm.append_right _ po
 split
 ·exact Jj (uT O nd2 bd2 hc hz hz' eB q2' sX2 (Jh.mp sY1).1 rfl fin)
 ·exact Jj (uj O nd2 bd2 hc hz hz' (y0:=y0) (by rw [eB];rfl) q2' sX2 (Jh.mp sY1).1 rfl fin)
end
end L2
end
section
namespace L2
open PySem PySem.Spec PyProof.Rows PySem.W
section
variable {F:Nat->Keyed}
theorem fG {l:List Nat} {k:Nat}:(arK F l)[k]?=(l[k]?).map F:=by simp [arK]
theorem tN {pre S T:List Nat}:mirror (arK F (pre++(S++T))) pre.length (pre.length+S.length) ((pre.length+S.length - pre.length) / 2)=arK F (pre++(S.reverse++T)):=by
 apply Array.ext_getElem?;intro k;rw [getElem?_mirror_all (by rw [bH,IJ,IJ];omega),fG,fG,fG];by_cases c1:k < pre.length
 ·rw [IV (by omega),Je c1,Je c1]
 ·rw [IP (l₁:=pre) (i:=k) (by omega),IP (l₁:=pre) (i:=k) (by omega)];by_cases c2:k < pre.length+S.length
  ·rw [IX (by omega),IP (by omega),Je (by omega),Je (by rw [Ko];omega),List.getElem?_reverse (by omega)];congr 2;omega
  ·rw [IV (by omega),IP (l₁:=S) (by omega),IP (l₁:=S.reverse) (by rw [Ko];omega),Ko]
theorem vf {pre S1 S2 T:List Nat} {x:Nat}:bubble (arK F (pre++(S1++S2++x :: T))) (pre.length+(S1++S2).length) (pre.length+(S1++S2).length - (pre.length+S1.length))=arK F (pre++(S1++x :: S2++T)):=by
 apply Array.ext_getElem?;intro k;have hs:pre.length+(S1++S2).length < (arK F (pre++(S1++S2++x :: T))).size:=by rw [bH];simp only [IJ,Jk];omega
 rw [getElem?_bubble hs _ (by omega),fG,fG,fG,fG,show pre++(S1++S2++x :: T)=(pre++S1)++(S2++x :: T) by simp,show pre++(S1++x :: S2++T)=(pre++S1)++(x :: (S2++T)) by simp];rw [IJ];have hl:(pre++S1).length=pre.length+S1.length:=IJ;have e0:pre.length+(S1.length+S2.length) - (pre.length+(S1.length+S2.length) - (pre.length+S1.length))=pre.length+S1.length:=by omega
 rw [e0];by_cases c1:k=pre.length+S1.length
 ·subst c1;rw [IX rfl,IP (by omega),IP (l₁:=pre++S1) (by omega),hl,show pre.length+(S1.length+S2.length) - (pre.length+S1.length)=S2.length by omega,IP (by omega),K3,K3];rfl
 ·rw [IV c1];by_cases c2:k < pre.length+S1.length
  ·rw [IV (by omega),Je (l₁:=pre++S1) (by omega),Je (l₁:=pre++S1) (by omega)]
  ·by_cases c3:k<=pre.length+(S1.length+S2.length)
   ·rw [IX (by omega),IP (by omega),IP (l₁:=pre++S1) (i:=k) (by omega),hl,Je (by omega),show k - (pre.length+S1.length)=(k - 1 - (pre.length+S1.length))+1 by omega,Lg,Je (by omega)]
   ·rw [IV (by omega),IP (by omega),IP (l₁:=pre++S1) (i:=k) (by omega),hl,IP (l₁:=S2) (by omega),show k - (pre.length+S1.length)=(k - (pre.length+S1.length) - 1)+1 by omega,Lg,IP (l₁:=S2) (by omega),show k - (pre.length+S1.length) - 1+1 - S2.length=(k - (pre.length+S1.length) - 1 - S2.length)+1 by omega,Lg]
end
def Hk (lo:Nat) (c:Option (Option Nat)×Nat):StateT SortSt Sem (ForInStep (Option (Option Nat)×Nat)):=do
 let some smaller<-ltAt' (lo+c.2) (lo+c.2 - 1) | return .done (some none,c.2)
 if smaller then return .done (none,c.2)
 return .yield (none,c.2+1)
section
variable {M:Model} {E:Value->Shared->Prop} {Ar:Around} {s:Shared} {F:Nat->Keyed} {lt:Nat->Nat->Bool} {N:Nat} {κ:SortKind} {pd:Array (Nat×Nat×Nat)} {g:Nat}
theorem mz {l:List Nat} {i j x y:Nat} {Q:Option Bool->SortSt->Prop} (hc:Cmp M Ar E s F lt N κ) (bd:∀ x∈l,x < N) (hi:l[i]?=some x) (hj:l[j]?=some y) (q:Q (some (lt x y)) (SortSt.mk' κ (arK F l) pd g none)):wpS M Ar E s (ltAt' i j) Q (SortSt.mk' κ (arK F l) pd g none):=by
 rw [ltAt'_eq];refine Jj (Lj ?_);exact bw hi (bw hj (hc _ _ _ _ rfl (bd _ (Jn hi)) (bd _ (Jn hj)) q))
theorem iw {pre S T:List Nat} {k x:Nat} (h:(S++T)[k]?=some x):(pre++(S++T))[pre.length+k]?=some x:=by rw [IP (by omega),Kr,h]
theorem rL {S:List Nat} (h:0 < S.length):∃ z,S[S.length - 1]?=some z:=⟨_,II (by omega)⟩
theorem pw_snoc {S:List Nat} {x y:Nat} (O:Ord lt N) (hp:S.Pairwise fun x y=>lt x y=true) (hz:S[S.length - 1]?=some x) (e:lt x y=true):(S++[y]).Pairwise fun x y=>lt x y=true:=by
 refine Jh.mpr ⟨hp,List.pairwise_singleton _ _,fun a ha b hb=>?_⟩;rw [IZ] at hb;subst hb;rcases pw_last hp hz ha with rfl | z
 ·exact e
 ·exact O.tr _ _ _ z e
theorem CK {pre S T:List Nat} {n nrem:Nat} {Q:Option (Option Nat)×Nat->SortSt->Prop} (O:Ord lt N) (hc:Cmp M Ar E s F lt N κ) (bd:∀ x∈pre++(S++T),x < N) (nd:(S++T).Nodup) (hn:S.length=n) (h1:1<=n) (hr:(S++T).length=nrem) (sS:S.Pairwise fun x y=>lt x y=true)
  (h:∀ S' T',S'++T'=S++T->S'.Pairwise (fun x y=>lt x y=true)->n<=S'.length->(∀ x y T'',T'=y :: T''->S'[S'.length - 1]?=some x->lt y x=true)->Q (none,S'.length) (SortSt.mk' κ (arK F (pre++(S++T))) pd g none)) :
  wpS M Ar E s (forIn [n:nrem] ((none,n):Option (Option Nat)×Nat) fun _ c=>Hk pre.length c) Q (SortSt.mk' κ (arK F (pre++(S++T))) pd g none):=by
 refine J3 (I:=fun i (c:Option (Option Nat)×Nat) st=>c=(none,i)/\st=SortSt.mk' κ (arK F (pre++(S++T))) pd g none/\∃ S' T',S'++T'=S++T/\S'.Pairwise (fun x y=>lt x y=true)/\S'.length=i) ?_ ?_ ⟨rfl,rfl,S,T,rfl,sS,hn⟩
 ·rintro i _ _ hi1 hi2 ⟨rfl,rfl,S',T',e,sS',el⟩;unfold Hk;dsimp only;obtain ⟨x,hx⟩:=rL (S:=S') (by omega);have hl:S'.length+T'.length=nrem:=by rw [<- IJ,e,hr]
  obtain ⟨y,T'',rfl⟩:∃ y T'',T'=y :: T'':=by cases T' with | nil=>rw [Ke] at hl;omega | cons a b=>exact ⟨a,b,rfl⟩
  rw [<- e] at bd h nd ⊢;refine Jj (mz hc bd (x:=y) (y:=x) (iw (by rw [<- el,IP (IY _),K3];rfl)) (by rw [Nat.add_sub_assoc (by omega)];exact iw (by rw [<- el,Je (by omega)];exact hx)) ?_);dsimp only;cases c:lt y x with
  | true =>
   rw [IX rfl];have:=h S' (y :: T'') rfl sS' (by omega) (fun x' y' T3 e1 e2=>by rw [hx] at e2;injection e1 with e1 _;injection e2 with e2;subst e1 e2;exact c);rw [el] at this;exact Jg this
  | false =>
   rw [IV Jf];have hne:x≠y:=(JQ.mp nd).2.2 x (Jn hx) y (IU ..);have hxy:lt x y=true:=O.tot y x (bd _ (IS _ (IS _ (IU ..)))) (bd _ (IS _ (Jq _ (Jn hx)))) (Ne.symm hne) c;exact Jg ⟨rfl,rfl,S'++[y],T'',by simp,pw_snoc O sS' hx hxy,by rw [IJ,el];rfl⟩
 ·rintro _ _ ⟨rfl,rfl,S',T',e,sS',el⟩;have hl:S'.length+T'.length=nrem:=by rw [<- IJ,e,hr]
  have hS:n<=nrem:=by rw [<- hr,<-hn,IJ];omega
  have e0:T'=[]:=Jv (by omega);subst e0;rw [<- el];exact h S' [] e sS' (by omega) (fun _ _ _ e1=>by cases e1)
theorem w_count {pre R:List Nat} {nrem:Nat} {Q:Option Nat->SortSt->Prop} (O:Ord lt N) (hc:Cmp M Ar E s F lt N κ) (bd:∀ x∈pre++R,x < N) (nd:R.Nodup) (hr:R.length=nrem) (h1:1<=nrem)
  (h:∀ S T,(S++T).Perm R->S.Pairwise (fun x y=>lt x y=true)->1<=S.length->Q (some S.length) (SortSt.mk' κ (arK F (pre++(S++T))) pd g none)) :
  wpS M Ar E s (countRun' pre.length nrem) Q (SortSt.mk' κ (arK F (pre++R)) pd g none):=by
 obtain ⟨a,R',rfl⟩:∃ a R',R=a :: R':=by cases R with | nil=>rw [Ke] at hr;omega | cons a b=>exact ⟨a,b,rfl⟩
 rw [countRun'_eq];dsimp only;refine Jj (CK (S:=[a]) (T:=R') O hc bd nd rfl (IY _) hr (List.pairwise_singleton _ _) fun S T e sS hS hst=>?_);dsimp only;by_cases c:S.length=nrem
 ·rw [IX (by rw [c];exact JX _),<-e];exact Jg (h S T (by rw [e];exact Ks _) sS hS)
 rw [IV (by rw [JD];exact c)];by_cases c2:S.length > 1
 ·rw [IX c2];obtain ⟨z,hz⟩:=rL (S:=S) (by omega);have hSa:S[0]?=some a:=by
   cases S with
   | nil=>exact absurd hS (by decide)
   | cons b S=>rw [Lh,List.singleton_append] at e;rw [(List.cons.inj e).1];rfl
  have hlt:lt a z=true:=by
   obtain ⟨u1,u2⟩:=IL.mp hSa;obtain ⟨u3,u4⟩:=IL.mp hz;have:=J7.mp sS 0 (S.length - 1) u1 u3 (by omega)
   rwa [u2,u4] at this
  rw [<- e];refine Jj (mz hc (by rw [e];exact bd) (x:=a) (y:=z) (by rw [<- Nat.add_zero pre.length];exact iw (by rw [Je (by omega)];exact hSa)) (by rw [Nat.add_sub_assoc (by omega)];exact iw (by rw [Je (by omega)];exact hz)) ?_);dsimp only;rw [hlt,IX rfl];exact Jg (h S T (by rw [e];exact Ks _) sS hS)
 rw [IV c2];refine Jj (wpS_lift (Kd ⟨rfl,?_⟩));have hS1:S.length=1:=by omega
 obtain ⟨rfl,rfl⟩:S=[a]/\T=R':=List.append_inj e hS1;rw [Ku];obtain ⟨b,R2,rfl⟩:∃ b R2,T=b :: R2:=by cases T with | nil=>exact absurd hr c | cons a b=>exact ⟨a,b,rfl⟩
 have hba:=hst a b R2 rfl rfl
 refine Jj (Kf (J3 (I:=fun i (c:Option (Option Nat)×Nat×Nat) st=>c=(none,i,0)/\st=SortSt.mk' κ (arK F (pre++([a]++b :: R2))) pd g none/\∃ S' T',S'++T'=[a]++b :: R2/\S'.Pairwise (fun x y=>lt y x=true)/\S'.length=i/\2<=i)
  (Q:=fun (c:Option (Option Nat)×Nat×Nat) st=>∃ n,c=(none,n,0)/\st=SortSt.mk' κ (arK F (pre++([a]++b :: R2))) pd g none/\∃ S' T',S'++T'=[a]++b :: R2/\S'.Pairwise (fun x y=>lt y x=true)/\S'.length=n/\2<=n)
  ?_ (fun c st z=>⟨_,z⟩) ⟨rfl,rfl,[a,b],R2,rfl,by simpa using hba,rfl,IY _⟩) ?_)
 ·rintro i _ _ hi1 hi2 ⟨rfl,rfl,S',T',e,sS',el,h2⟩;dsimp only;obtain ⟨x,hx⟩:=rL (S:=S') (by omega);have hl:S'.length+T'.length=nrem:=by rw [<- IJ,e,<-hr];rfl
  obtain ⟨y,T'',rfl⟩:∃ y T'',T'=y :: T'':=by cases T' with | nil=>rw [Ke] at hl;omega | cons a b=>exact ⟨a,b,rfl⟩
  have bd':∀ x∈pre++(S'++y :: T''),x < N:=by rw [e];exact bd
  have nd':(S'++y :: T'').Nodup:=by rw [e];exact nd
  have gy:(pre++(S'++y :: T''))[pre.length+i]?=some y:=iw (by rw [<- el,IP (IY _),K3];rfl);have gx:(pre++(S'++y :: T''))[pre.length+i - 1]?=some x:=by rw [Nat.add_sub_assoc (by omega)];exact iw (by rw [<- el,Je (by omega)];exact hx)
  rw [<- e];refine Jj (mz hc bd' gy gx ?_);dsimp only;cases c:lt y x with
  | true =>
   rw [IX rfl,IV (by decide)];exact Jg ⟨rfl,rfl,S'++[y],T'',by simp,pw_snoc (lt:=fun x y=>lt y x) O.flip sS' hx c,by rw [IJ,el];rfl,by omega⟩
  | false =>
   rw [IV Jf];have hne:x≠y:=(JQ.mp nd').2.2 x (Jn hx) y (IU ..);have hxy:lt x y=true:=O.tot y x (bd' _ (IS _ (IS _ (IU ..)))) (bd' _ (IS _ (Jq _ (Jn hx)))) (Ne.symm hne) c;refine Jj (mz hc bd' gx gy ?_);dsimp only;rw [hxy,IX rfl];exact Jg ⟨i,rfl,rfl,S',_,rfl,sS',el,h2⟩
 ·rintro _ _ ⟨n,rfl,rfl,S',T',e,sS',el,h2⟩;dsimp only;rw [IV (by decide),reverseSlice'_eq,<-e];refine Jj (KN ?_);have em:mirror (arK F (pre++(S'++T'))) pre.length (pre.length+n) ((pre.length+n - pre.length) / 2)=arK F (pre++(S'.reverse++T')):=by rw [<- el];exact tN
  show wpS M Ar E s _ Q (SortSt.mk' κ (mirror (arK F (pre++(S'++T'))) pre.length (pre.length+n) ((pre.length+n - pre.length) / 2)) pd g none);rw [em];have pr:(S'.reverse++T').Perm ([a]++b :: R2):=by rw [<- e];exact List.Perm.append_right _ (KR _)
  refine Jj (CK (S:=S'.reverse) (T:=T') O hc (fun x hx=>?_) (pr.nodup_iff.mpr nd) (by rw [Ko];exact el) (by omega) (by rw [pr.length_eq];exact hr) (Kl.mpr sS') fun S3 T3 e3 s3 l3 _=>?_)
  ·rcases Jx.mp hx with hx | hx
   ·exact bd x (Jq _ hx)
   ·exact bd x (IS _ (pr.mem_iff.mp hx))
  ·dsimp only;rw [<- e3] at pr ⊢;exact Jg (h S3 T3 pr s3 (by omega))
def plB (lo k:Nat) (c:Option Bool×Nat×Nat):StateT SortSt Sem (ForInStep (Option Bool×Nat×Nat)) :=
 if c.2.1>=c.2.2 then pure (.done (none,c.2.1,c.2.2)) else do
  let some less<-ltAt' (lo+k) (lo+(c.2.1+c.2.2) / 2) | return .done (some false,c.2.1,c.2.2)
  if less then return .yield (none,c.2.1,(c.2.1+c.2.2) / 2)
  return .yield (none,(c.2.1+c.2.2) / 2+1,c.2.2)
theorem yk {pre S T:List Nat} {k y:Nat} {Q:Option Bool×Nat×Nat->SortSt->Prop} (O:Ord lt N) (hc:Cmp M Ar E s F lt N κ) (bd:∀ x∈pre++(S++y :: T),x < N) (nd:(S++y :: T).Nodup) (hk:S.length=k) (sS:S.Pairwise fun x y=>lt x y=true)
  (h:∀ S1 S2,S=S1++S2->(∀ x∈S1,lt x y=true)->(∀ x∈S2,lt y x=true)->∀ r,Q (none,S1.length,r) (SortSt.mk' κ (arK F (pre++(S++y :: T))) pd g none)) :
  wpS M Ar E s (forIn [0:k] ((none,0,k):Option Bool×Nat×Nat) fun _ c=>plB pre.length k c) Q (SortSt.mk' κ (arK F (pre++(S++y :: T))) pd g none):=by
 have fin:∀ l,l<=k->(∀ i,i < l->∀ x,S[i]?=some x->lt y x=false)->(∀ i,l<=i->i < k->∀ x,S[i]?=some x->lt y x=true)->∀ r,Q (none,l,r) (SortSt.mk' κ (arK F (pre++(S++y :: T))) pd g none):=fun l hl a1 a2 r=>by
  obtain ⟨S1,S2,e,el,b1,b2⟩:=pG (S:=S) (P:=fun x=>!lt y x) (k:=l) (by omega) (fun i hi x e=>by rw [a1 i hi x e];rfl) (fun i hi hi' x e=>by rw [a2 i hi (by omega) x e];rfl);rw [<- el];refine h S1 S2 e (fun x hx=>?_) (fun x hx=>?_) r
  ·have b:=b1 x hx;rw [La] at b;have hx':x∈S:=by rw [e];exact Jq _ hx
   exact O.tot _ _ (bd _ (IS _ (IS _ (IU ..)))) (bd _ (IS _ (Jq _ hx'))) (Ne.symm ((JQ.mp nd).2.2 x hx' y (IU ..))) b
  ·have b:=b2 x hx
   rwa [Bool.not_eq_false'] at b
 have mono:∀ i j x x',i < j->S[i]?=some x->S[j]?=some x'->lt x x'=true:=fun i j x x' hij e1 e2=>by
  obtain ⟨u1,u2⟩:=IL.mp e1;obtain ⟨u3,u4⟩:=IL.mp e2;have:=J7.mp sS i j u1 u3 hij
  rwa [u2,u4] at this
 refine J3 (I:=fun i (c:Option Bool×Nat×Nat) st=>st=SortSt.mk' κ (arK F (pre++(S++y :: T))) pd g none/\c.1=none/\c.2.1<=c.2.2/\c.2.2<=k/\c.2.2 - c.2.1<=k - i/\(∀ i,i < c.2.1->∀ x,S[i]?=some x->lt y x=false)/\(∀ i,c.2.2<=i->i < k->∀ x,S[i]?=some x->lt y x=true)) ?_ ?_ ⟨rfl,rfl,JZ _,IY _,IY _,fun i z=>absurd z (Nat.not_lt_zero _),fun i z z'=>absurd z (by dsimp only;omega)⟩
 ·rintro i ⟨r,lo,hi⟩ _ _ hi' ⟨rfl,e,a1,a2,a3,a4,a5⟩;dsimp only at e a1 a2 a3 a4 a5;subst e;unfold plB;dsimp only;by_cases c:lo>=hi
  ·rw [IX c];exact Jg (fin lo (by omega) a4 (fun i z z'=>a5 i (by omega) z') hi)
  ·rw [IV c];obtain ⟨x,hx⟩:∃ x,S[(lo+hi) / 2]?=some x:=⟨_,II (by omega)⟩;refine Jj (mz hc bd (x:=y) (y:=x) (iw (by rw [<- hk,IP (IY _),K3];rfl)) (iw (by rw [Je (by omega)];exact hx)) ?_);dsimp only;cases e:lt y x with
   | true =>
    rw [IX rfl];refine Jg ⟨rfl,rfl,by dsimp only;omega,by dsimp only;omega,by dsimp only;omega,a4,fun i z z' x' hx'=>?_⟩;dsimp only at z;rcases Nat.lt_or_eq_of_le z with z | z
    ·exact O.tr _ _ _ e (mono _ _ _ _ z hx hx')
    ·rw [<- z,hx] at hx';injection hx' with hx';rw [<- hx'];exact e
   | false =>
    rw [IV Jf];refine Jg ⟨rfl,rfl,by dsimp only;omega,by dsimp only;omega,by dsimp only;omega,fun i z x' hx'=>?_,a5⟩;dsimp only at z;by_cases z2:i=(lo+hi) / 2
    ·rw [z2,hx] at hx';injection hx' with hx';rw [<- hx'];exact e
    ·cases e2:lt y x' with
     | false=>rfl
     | true=>rw [O.tr _ _ _ e2 (mono _ _ _ _ (by omega) hx' hx)] at e;exact absurd e (by decide)
 ·rintro ⟨r,lo,hi⟩ _ ⟨rfl,e,a1,a2,a3,a4,a5⟩;dsimp only at e a1 a2 a3 a4 a5;subst e;exact fin lo (by omega) a4 (fun i z z'=>a5 i (by omega) z') hi
theorem GI {pre R:List Nat} {n ok:Nat} {S T:List Nat} {Q:Bool->SortSt->Prop} (O:Ord lt N) (hc:Cmp M Ar E s F lt N κ) (bd:∀ x∈pre++(S++T),x < N) (nd:(S++T).Nodup) (hS:S.length=ok) (h1:1<=ok) (hn:ok<=n) (hr:n<=(S++T).length) (sS:S.Pairwise fun x y=>lt x y=true)
  (h:∀ S' T',(S'++T').Perm (S++T)->S'.Pairwise (fun x y=>lt x y=true)->S'.length=n->Q true (SortSt.mk' κ (arK F (pre++(S'++T'))) pd g none)) :
  wpS M Ar E s (binarySort' pre.length n ok) Q (SortSt.mk' κ (arK F (pre++(S++T))) pd g none):=by
 rw [binarySort'_eq,Nat.max_eq_left h1];dsimp only
 refine Jj (Kf (J3 (I:=fun k (c:Option Bool×PUnit) st=>c=(none,⟨⟩)/\∃ S' T',(S'++T').Perm (S++T)/\S'.Pairwise (fun x y=>lt x y=true)/\S'.length=k/\st=SortSt.mk' κ (arK F (pre++(S'++T'))) pd g none)
  (Q:=fun (c:Option Bool×PUnit) st=>c=(none,⟨⟩)/\∃ S' T',(S'++T').Perm (S++T)/\S'.Pairwise (fun x y=>lt x y=true)/\S'.length=n/\st=SortSt.mk' κ (arK F (pre++(S'++T'))) pd g none) ?_ ?_ ⟨rfl,S,T,Ks _,sS,hS,rfl⟩) ?_)
 ·rintro k _ _ hk1 hk2 ⟨rfl,S',T',pm,sS',el,rfl⟩;have hl:S'.length+T'.length=(S++T).length:=by rw [<- IJ,pm.length_eq]
  obtain ⟨y,T'',rfl⟩:∃ y T'',T'=y :: T'':=by cases T' with | nil=>rw [Ke] at hl;omega | cons a b=>exact ⟨a,b,rfl⟩
  refine Jj (yk O hc (fun x hx=>?_) (pm.nodup_iff.mpr nd) el sS' fun S1 S2 e q1 q2 r=>?_)
  ·rcases Jx.mp hx with hx | hx
   ·exact bd x (Jq _ hx)
   ·exact bd x (IS _ (pm.mem_iff.mp hx))
  ·dsimp only;rw [moveDown'_eq];refine Jj (KN (Jg ⟨rfl,S1++y :: S2,T'',?_,?_,?_,?_⟩))
   ·refine List.Perm.trans ?_ pm;rw [e,Jl,Jl];refine Kv _ ?_;rw [Lh];exact List.perm_middle.symm
   ·rw [e] at sS';have z:=Jh.mp sS';refine Jh.mpr ⟨z.1,J9.mpr ⟨q2,z.2.1⟩,fun a ha b hb=>?_⟩;rcases Jo.mp hb with rfl | hb
    ·exact q1 a ha
    ·exact z.2.2 a ha b hb
   ·rw [<- el,e];simp only [IJ,Jk];omega
   ·have eb:=vf (F:=F) (pre:=pre) (S1:=S1) (S2:=S2) (T:=T'') (x:=y);rw [<- e,el] at eb;show SortSt.mk' κ (bubble (arK F (pre++(S'++y :: T''))) (pre.length+k) (pre.length+k - (pre.length+S1.length))) pd g none=_;rw [eb]
 ·rintro _ _ ⟨rfl,S',T',pm,sS',el,rfl⟩;exact ⟨rfl,S',T',pm,sS',by omega,rfl⟩
 ·rintro _ _ ⟨rfl,S',T',pm,sS',el,rfl⟩;exact Jg (h S' T' pm sS' el)
end
end L2
end
section
namespace L2
open PySem PySem.Spec PyProof.Rows PySem.W
def Mt (lt:Nat->Nat->Bool):List (Nat×Nat×Nat)->Nat->List Nat->Prop
 | [],_,l=>l=[]
 | r :: ps,s,l=>r.1=s/\∃ X l',l=X++l'/\X.length=r.2.1/\X≠[]/\X.Pairwise (fun x y=>lt x y=true)/\Mt lt ps (s+r.2.1) l'
section
variable {lt:Nat->Nat->Bool}
theorem Mt.app:∀ {ps qs:List (Nat×Nat×Nat)} {s:Nat} {l:List Nat},Mt lt (ps++qs) s l->∃ l1 l2,l=l1++l2/\Mt lt ps s l1/\Mt lt qs (s+l1.length) l2
 | [],qs,s,l,h=>⟨[],l,rfl,rfl,h⟩
 | r :: ps,qs,s,l,h=>by
  obtain ⟨e,X,l',rfl,el,hX,sX,h⟩:=h;obtain ⟨l1,l2,rfl,h1,h2⟩:=Mt.app h;exact ⟨X++l1,l2,(Jl ..).symm,⟨e,X,l1,rfl,el,hX,sX,h1⟩,by rw [IJ,el,<-Nat.add_assoc];exact h2⟩
theorem Mt.D4:∀ {ps qs:List (Nat×Nat×Nat)} {s:Nat} {l1 l2:List Nat},Mt lt ps s l1->Mt lt qs (s+l1.length) l2->Mt lt (ps++qs) s (l1++l2)
 | [],qs,s,l1,l2,h,h2=>by
  have h:l1=[]:=h;subst h;exact h2
 | r :: ps,qs,s,l1,l2,h,h2=>by
  obtain ⟨e,X,l',rfl,el,hX,sX,h⟩:=h;exact ⟨e,X,l'++l2,Jl ..,el,hX,sX,Mt.D4 h (by rw [IJ,el,<-Nat.add_assoc] at h2;exact h2)⟩
theorem Mt.len:∀ {ps:List (Nat×Nat×Nat)} {s:Nat} {l:List Nat},Mt lt ps s l->ps.length<=l.length
 | [],s,l,h=>JZ _
 | r :: ps,s,l,h=>by
  obtain ⟨e,X,l',rfl,el,hX,sX,h⟩:=h;have:=List.length_pos_iff.mpr hX;have:=Mt.len h;rw [IJ,Jk];omega
theorem Mt.mod {f:Nat×Nat×Nat->Nat×Nat×Nat} (hf:∀ r,(f r).1=r.1/\(f r).2.1=r.2.1):∀ {ps:List (Nat×Nat×Nat)} {i s:Nat} {l:List Nat},Mt lt ps s l->Mt lt (ps.modify i f) s l
 | [],i,s,l,h=>by rw [List.modify_nil];exact h
 | r :: ps,0,s,l,h=>by
  rw [List.modify_zero_cons];unfold Mt at h ⊢;rw [(hf r).1,(hf r).2];exact h
 | r :: ps,i+1,s,l,h=>by
  rw [List.modify_succ_cons];obtain ⟨e,X,l',rfl,el,hX,sX,h⟩:=h;exact ⟨e,X,l',rfl,el,hX,sX,Mt.mod hf h⟩
theorem Mt.IF {ps:List (Nat×Nat×Nat)} {s:Nat} {l:List Nat} (h:Mt lt ps s l) (e:ps.length<=1):l.Pairwise fun x y=>lt x y=true:=by
 match ps,h,e with
 | [],h,_ =>
  have h:l=[]:=h;subst h;exact List.Pairwise.nil
 | [r],h,_ =>
  obtain ⟨e,X,l',rfl,el,hX,sX,h⟩:=h;have h:l'=[]:=h;subst h;rw [JV];exact sX
end
section
variable {M:Model} {E:Value->Shared->Prop} {Ar:Around} {s:Shared} {F:Nat->Keyed} {lt:Nat->Nat->Bool} {N:Nat} {κ:SortKind} {l0:List Nat}
def SoI (F:Nat->Keyed) (lt:Nat->Nat->Bool) (κ:SortKind) (l0:List Nat) (k:Nat) (ps:List (Nat×Nat×Nat)) (R:List Nat) (st:SortSt):Prop :=
 ∃ l1 g,st=SortSt.mk' κ (arK F (l1++R)) ps.toArray g none/\Mt lt ps 0 l1/\l1.length=k/\(l1++R).Perm l0
variable (O:Ord lt N) (nd:l0.Nodup) (bd:∀ x∈l0,x < N) (hc:Cmp M Ar E s F lt N κ)
include O nd bd hc
theorem Br {ps:List (Nat×Nat×Nat)} {R:List Nat} {i k:Nat} {st:SortSt} {Q:Bool->SortSt->Prop} (h:SoI F lt κ l0 k ps R st) (hi:i+1 < ps.length) (q:∀ ps' st,ps'.length+1=ps.length->SoI F lt κ l0 k ps' R st->Q true st):wpS M Ar E s (mergeAt' i) Q st:=by
 obtain ⟨l1,g,rfl,hM,hk,pm⟩:=h;obtain ⟨p1,r1,r2,p2,rfl,e1⟩:∃ p1 r1 r2 p2,ps=p1++r1 :: r2 :: p2/\p1.length=i:=by
  refine ⟨ps.take i,ps[i],ps[i+1],ps.drop (i+2),?_,by rw [JN];omega⟩;rw [<- J8 (by omega),<-J8 (by omega),List.take_append_drop]
 obtain ⟨u,v,rfl,m1,m2⟩:=hM.app;rw [Nat.zero_add] at m2;obtain ⟨a1,X,v1,rfl,xl,hX,sX,a2,Y,v2,rfl,yl,hY,sY,m3⟩:=m2;have ea:arK F (u++(X++(Y++v2))++R)=arK F (u++(X++Y)++(v2++R)):=by simp
 rw [ea];have pm':(u++(X++Y)++(v2++R)).Perm l0:=by simpa using pm
 have ndw:(X++Y).Nodup:=by
  have:=pm'.nodup_iff.mpr nd;rw [Jl] at this;exact (JQ.mp (JQ.mp this).2.1).1
 refine sQ (pw:=r1.2.2) (pw2:=r2.2.2) O ndw (fun x hx=>bd x (pm'.mem_iff.mp (Jq _ (IS _ hx)))) hc ?_ ?_ hX hY sX sY fun Z g' sZ pZ=>?_
 ·rw [KU,<-e1,IP (IY _),K3,<-a1,xl];rfl
 ·rw [KU,<-e1,IP (by omega),Kr,yl,xl,<-a2];rfl
 ·have hl:Z.length=X.length+Y.length:=by rw [pZ.length_eq,IJ]
  refine q (p1++(u.length,X.length+Y.length,r1.2.2) :: p2) _ ?_ ⟨u++(Z++v2),g',?_,?_,?_,?_⟩
  ·simp only [IJ,Jk];omega
  ·have e2:(((p1++r1 :: r2 :: p2).toArray.setIfInBounds i (u.length,X.length+Y.length,r1.2.2)).eraseIdxIfInBounds (i+1))=(p1++(u.length,X.length+Y.length,r1.2.2) :: p2).toArray:=by
    apply Array.toList_inj.mp;rw [Array.toList_eraseIdxIfInBounds,Array.toList_setIfInBounds,<-e1];simp [List.eraseIdx_append_of_length_le]
   rw [e2];simp
  ·refine m1.D4 ⟨by rw [Nat.zero_add],Z,v2,rfl,hl,fun e=>?_,sZ,?_⟩
   ·rw [e,Ke] at hl;have:=List.length_pos_iff.mpr hX;omega
   ·rw [Nat.zero_add,xl,yl,<-Nat.add_assoc];exact m3
  ·simp only [IJ] at hk ⊢;omega
  ·refine List.Perm.trans ?_ pm';rw [show u++(Z++v2)++R=u++Z++(v2++R) by simp];exact List.Perm.append_right _ (Kv _ pZ)
omit O nd bd hc
def sr3 (size lo n:Nat):StateT SortSt Sem (ForInStep (Option Unit×Nat)):=do
 let st<-get
 match (pendingOf st).back? with
 | some (s1,n1,_)=>do
  let c<-forIn [0:size] ((none,()):Option Unit×Unit) fun _ _=>do
   let st<-get
   match (if (pendingOf st).size > 1 then (pendingOf st)[(pendingOf st).size - 2]? else none) with
   | some (_,_,older) =>
    if older<=power' size (2*s1+n1) (2*s1+n1+n1+n) size then pure (.done (none,()))
    else do
     let b<-mergeAt' ((pendingOf st).size - 2)
     if (!b)=true then pure (.done (some (),())) else pure (.yield (none,()))
   | _=>pure (.done (none,()))
  match c.1 with
  | some r=>pure (.done (some r,lo))
  | none=>do
   modify fun s=>setPending s ((pendingOf s).modify ((pendingOf s).size - 1) fun x=>(x.1,x.2.1,power' size (2*s1+n1) (2*s1+n1+n1+n) size))
   modify fun s=>setPending s ((pendingOf s).push (lo,n,0))
   pure (.yield (none,lo+n))
 | _=>do
  modify fun s=>setPending s ((pendingOf s).push (lo,n,0))
  pure (.yield (none,lo+n))
include O nd bd hc
theorem Bu {ps:List (Nat×Nat×Nat)} {S T:List Nat} {lo size:Nat} {st:SortSt} {Q:ForInStep (Option Unit×Nat)->SortSt->Prop} (h:SoI F lt κ l0 lo ps (S++T) st) (sS:S.Pairwise fun x y=>lt x y=true) (hS:1<=S.length)
  (q:∀ ps' st,SoI F lt κ l0 (lo+S.length) ps' T st->Q (.yield (none,lo+S.length)) st):wpS M Ar E s (sr3 size lo S.length) Q st:=by
 have push:∀ {ps st},SoI F lt κ l0 lo ps (S++T) st->SoI F lt κ l0 (lo+S.length) (ps++[(lo,S.length,0)]) T (setPending st ((pendingOf st).push (lo,S.length,0))):=by
  rintro ps _ ⟨l1,g,rfl,hM,hk,pm⟩;refine ⟨l1++S,g,?_,hM.D4 ⟨by rw [Nat.zero_add,hk],S,[],by rw [JV],rfl,fun e=>by rw [e] at hS;exact absurd hS (by decide),sS,rfl⟩,by rw [IJ,hk],by rw [Jl];exact pm⟩;show SortSt.mk' κ (arK F (l1++(S++T))) (ps.toArray.push _) g none=_;rw [List.push_toArray,Jl]
 unfold sr3;refine Jj (Lj ?_);cases e:(pendingOf st).back? with
 | none =>
  dsimp only;exact Jj (KN (Jg (q _ _ (push h))))
 | some r =>
  obtain ⟨s1,n1,p1⟩:=r;dsimp only;refine Jj (Kf (J3 (I:=fun _ (c:Option Unit×Unit) st=>c.1=none/\∃ ps,SoI F lt κ l0 lo ps (S++T) st) (Q:=fun (c:Option Unit×Unit) st=>c.1=none/\∃ ps,SoI F lt κ l0 lo ps (S++T) st) ?_ (fun _ _ z=>z) ⟨rfl,ps,h⟩) ?_)
  ·rintro i ⟨r,⟨⟩⟩ st _ _ ⟨e,ps,h⟩;refine Jj (Lj ?_);have ep:(pendingOf st).size=ps.length:=by obtain ⟨l1,g,rfl,hM,hk,pm⟩:=h;exact IW
   split
   ·split
    ·exact Jg ⟨rfl,ps,h⟩
    ·rename_i fst fst_1 older hp hold;have h1:(pendingOf st).size > 1:=by
      by_cases c:(pendingOf st).size > 1
      ·exact c
      ·rw [IV c] at hp;cases hp
     refine Jj (Br O nd bd hc h (by omega) fun ps' st' _ h'=>?_);rw [IV (by decide)];exact Jg ⟨rfl,ps',h'⟩
   ·exact Jg ⟨rfl,ps,h⟩
  ·rintro ⟨r,⟨⟩⟩ st ⟨e,ps,h⟩;dsimp only at e ⊢;subst e;refine Jj (KN (Jj (KN (Jg (q _ _ (push (ps:=ps.modify (ps.length - 1) fun x=>(x.1,x.2.1,power' size (2*s1+n1) (2*s1+n1+n1+S.length) size)) ?_))))))
   ·obtain ⟨l1,g,rfl,hM,hk,pm⟩:=h;refine ⟨l1,g,?_,Mt.mod (f:=fun x=>(x.1,x.2.1,power' size (2*s1+n1) (2*s1+n1+n1+S.length) size)) (fun _=>⟨rfl,rfl⟩) hM,hk,pm⟩;show SortSt.mk' κ (arK F (l1++(S++T))) (ps.toArray.modify (ps.toArray.size - 1) _) g none=_;congr 1;rw [IW,List.modify_toArray]
theorem A0 {p0:List Nat} {g:Nat} {Q:Unit->SortSt->Prop} (h0:p0.Perm l0) (h:∀ l g ps,l.Perm l0->l.Pairwise (fun x y=>lt x y=true)->Q () (SortSt.mk' κ (arK F l) ps g none)) :
  wpS M Ar E s sortRuns' Q (SortSt.mk' κ (arK F p0) #[] g none):=by
 have hl0:=h0.length_eq;rw [sortRuns'_eq];refine Jj (Lj ?_);rw [show (arrOf (SortSt.mk' κ (arK F p0) #[] g none)).size=l0.length by rw [<- hl0];exact bH];dsimp only;generalize minRun' l0.length l0.length 0=mr;refine Jj (Kf (J3 (I:=fun i (c:Option Unit×Nat) st=>c.1=none/\i<=c.2/\∃ ps R,SoI F lt κ l0 c.2 ps R st) (Q:=fun (c:Option Unit×Nat) st=>c.1=none/\∃ ps,SoI F lt κ l0 l0.length ps [] st) ?_ ?_ ⟨rfl,IY _,[],p0,[],g,rfl,rfl,rfl,h0⟩) ?_)
 ·rintro i ⟨r,lo⟩ st _ hi ⟨e,h1,ps,R,h2⟩;dsimp only at e h1 h2 ⊢;subst e;by_cases c:lo>=l0.length
  ·rw [IX c];refine Jg ⟨rfl,ps,?_⟩;obtain ⟨l1,g,rfl,hM,hk,pm⟩:=h2;have:=pm.length_eq;rw [IJ] at this;have e0:R=[]:=Jv (by omega);subst e0;exact ⟨l1,g,rfl,hM,by rw [Ke] at this;omega,pm⟩
  rw [IV c];obtain ⟨l1,g,rfl,hM,rfl,pm⟩:=h2;have hlen:=pm.length_eq;rw [IJ] at hlen;have nd1:=pm.nodup_iff.mpr nd;refine Jj (w_count O hc (fun x hx=>bd x (pm.mem_iff.mp hx)) (JQ.mp nd1).2.1 (by omega) (by omega) fun S T pS sS hS=>?_);dsimp only;have pm2:(l1++(S++T)).Perm l0:=(Kv _ pS).trans pm;have hlen2:=pS.length_eq;rw [IJ] at hlen2;have bc:∀ {α β:Type} {m m':StateT SortSt Sem α} {f f':α->StateT SortSt Sem β},m=m'->f=f'->(m>>=f)=(m'>>=f'):=by rintro _ _ _ _ _ _ rfl rfl;rfl
  have use:∀ {m m':StateT SortSt Sem (ForInStep (Option Unit×Nat))} {Q:ForInStep (Option Unit×Nat)->SortSt->Prop} {st:SortSt},m=m'->wpS M Ar E s m' Q st->wpS M Ar E s m Q st:=by rintro _ _ _ _ rfl z;exact z
  by_cases c2:S.length < mr
  ·rw [IX c2];refine Jj (wpS_lift (Kd ⟨rfl,?_⟩));refine Jj (GI (R:=R) O hc (fun x hx=>bd x (pm2.mem_iff.mp hx)) (JQ.mp (pm2.nodup_iff.mpr nd)).2.1 rfl hS (by omega) (by rw [IJ];omega) sS fun S' T' pS' sS' hS'=>?_);rw [IV (by decide),<-hS'];refine use (m':=sr3 l0.length l1.length S'.length) ?_ (Kf (Bu O nd bd hc (S:=S') (T:=T') (size:=l0.length) ⟨l1,g,rfl,hM,rfl,(Kv _ pS').trans pm2⟩ sS' (by omega) (Q:=fun r st=>∃ ps' n R,1<=n/\r=.yield (none,l1.length+n)/\SoI F lt κ l0 (l1.length+n) ps' R st) fun ps' st hs=>⟨ps',_,T',by omega,rfl,hs⟩) ?_)
   ·unfold sr3;refine Kw fun st=>?_;cases (pendingOf st).back? with
    | none=>rfl
    | some r =>
     obtain ⟨s1,n1,p1⟩:=r;dsimp only;refine bc ?_ ?_
     ·congr 1;try (funext _ c;refine Kw fun st=>?_;split <;> rfl)
     ·funext c;cases c.1 <;> rfl
   ·rintro _ st ⟨ps',n,R,hn,rfl,hs⟩;exact ⟨rfl,by dsimp only;omega,ps',R,hs⟩
  ·rw [IV c2];refine use (m':=sr3 l0.length l1.length S.length) ?_ (Kf (Bu O nd bd hc (S:=S) (T:=T) (size:=l0.length) ⟨l1,g,rfl,hM,rfl,pm2⟩ sS hS (Q:=fun r st=>∃ ps' n R,1<=n/\r=.yield (none,l1.length+n)/\SoI F lt κ l0 (l1.length+n) ps' R st) fun ps' st hs=>⟨ps',_,T,hS,rfl,hs⟩) ?_)
   ·unfold sr3;refine Kw fun st=>?_;cases (pendingOf st).back? with
    | none=>rfl
    | some r =>
     obtain ⟨s1,n1,p1⟩:=r;dsimp only;refine bc ?_ ?_
     ·congr 1;try (funext _ c;refine Kw fun st=>?_;split <;> rfl)
     ·funext c;cases c.1 <;> rfl
   ·rintro _ st ⟨ps',n,R,hn,rfl,hs⟩;exact ⟨rfl,by dsimp only;omega,ps',R,hs⟩
 ·rintro ⟨r,lo⟩ st ⟨e,h1,ps,R,l1,g,rfl,hM,hk,pm⟩;have:=pm.length_eq;rw [IJ] at this;dsimp only at e h1 hk;have e0:R=[]:=Jv (by omega);subst e0;exact ⟨e,ps,l1,g,rfl,hM,by rw [Ke] at this;omega,pm⟩
 ·rintro ⟨r,lo⟩ st ⟨e,ps,hs⟩;dsimp only at e ⊢;subst e;have hps:ps.length<=l0.length:=by obtain ⟨l1,g,rfl,hM,hk,pm⟩:=hs;rw [<- hk];exact hM.len
  refine Jj (Kf (J3 (I:=fun i (c:Option Unit×Unit) st=>c.1=none/\∃ ps,ps.length<=l0.length - i/\SoI F lt κ l0 l0.length ps [] st) (Q:=fun (c:Option Unit×Unit) st=>c.1=none/\∃ ps,ps.length<=1/\SoI F lt κ l0 l0.length ps [] st) ?_ ?_ ⟨rfl,ps,hps,hs⟩) ?_)
  ·rintro i ⟨r,⟨⟩⟩ st _ hi ⟨e,ps,hp,hs⟩;refine Jj (Lj ?_);have ep:(pendingOf st).size=ps.length:=by obtain ⟨l1,g,rfl,hM,hk,pm⟩:=hs;exact IW
   by_cases c:(pendingOf st).size<=1
   ·rw [IX c];exact Jg ⟨rfl,ps,by omega,hs⟩
   ·rw [IV c];refine Jj (Br O nd bd hc hs ?_ fun ps' st' hl h'=>?_)
    ·have:∀ c:Bool,(if c=true then (pendingOf st).size - 2 - 1 else (pendingOf st).size - 2)+1 < ps.length:=fun c=>by cases c <;> simp <;> omega
     exact this _
    ·rw [IV (by decide)];exact Jg ⟨rfl,ps',by omega,h'⟩
  ·rintro ⟨r,⟨⟩⟩ st ⟨e,ps,hp,hs⟩;exact ⟨e,ps,by omega,hs⟩
  ·rintro ⟨r,⟨⟩⟩ st ⟨e,ps,hp,hs⟩;dsimp only at e ⊢;subst e;obtain ⟨l1,g,rfl,hM,hk,pm⟩:=hs;rw [JV] at pm ⊢;exact Jg (h l1 g _ pm (hM.IF hp))
end
end L2
end
section
namespace L2
open PySem PySem.Spec PyProof.Rows PySem.W
theorem wx {P:Program} {w:World} {A:Around} {E:Value->Shared->Prop} {s:Shared} {vs ks:List Value} {κ:SortKind} {lt:Nat->Nat->Bool} {Q:SortSt->Shared->Prop} (hl:ks.length=vs.length)
  (hc:∀ i j (C:Bool->Shared->Prop),i < vs.length->j < vs.length->C (lt i j) s->kas_ask P w A κ ks i j C s) (O:Ord lt vs.length)
  (h:∀ p st',p.size=vs.length->arrOf st'=p.map (kas_item (ks.toArray.zip vs.toArray))->failedOf st'=none->Pm vs.length p->Up lt p vs.length->Q st' s) :
  wpAny (model P w) A ((sortRuns').run (SortSt.mk' κ (ks.toArray.zip vs.toArray) #[] 7 none)) (fun r s'=>Q r.2 s') E s:=by
 have e:=kas_range (ks.toArray.zip vs.toArray);rw [show (ks.toArray.zip vs.toArray).size=vs.length by simp [hl]] at e;have est:SortSt.mk' κ (ks.toArray.zip vs.toArray) #[] 7 none=SortSt.mk' κ (arK (kas_item (ks.toArray.zip vs.toArray)) (List.range vs.length)) #[] 7 none:=by
  congr 1;rw [<- e];simp only [arK,e];rw [<- List.map_toArray,e]
 rw [est];have hcm:Cmp (model P w) A E s (kas_item (ks.toArray.zip vs.toArray)) lt vs.length κ:=by
  intro i j C st hk hi hj hC;rw [lt'_eq];refine Jj (Lj ?_);rw [hk,kat_item hl,kat_item hl];refine Jj (wpS_lift (wpAny_attempt (JH (hc i j (fun b s'=>b=lt i j/\s'=s) hi hj ⟨rfl,rfl⟩) (fun b s' hb=>?_) fun _ _ z=>z.elim)));obtain ⟨rfl,rfl⟩:=hb;exact ⟨rfl,Jg hC⟩
 have:=A0 (M:=model P w) (Ar:=A) (E:=E) (s:=s) (g:=7) (p0:=List.range vs.length) (Q:=fun _ st=>Q st s) O List.nodup_range (fun x hx=>List.mem_range.mp hx) hcm (Ks _) fun l g ps pl sl=>h l.toArray _ (by rw [IW,pl.length_eq,J5]) (by simp [arK]) rfl (K7.mpr pl) fun i hi=>?_
 ·exact JH this (fun r s' z=>by obtain ⟨rfl,z⟩:=z;exact z) fun _ _ z=>z
 ·have hll:l.length=vs.length:=by rw [pl.length_eq,J5]
  have:=J7.mp sl i (i+1) (by omega) (by omega) (Kx _);unfold at_;rw [K4,K4,KU,KU,II (by omega),II (by omega)];exact this
end L2
end
section
namespace L2
open PySem PySem.Spec PyProof.Rows PySem.W
section
variable {P:Program} {w:World} {A:Around} {E:Value->Shared->Prop} {s:Shared} {a kS:Addr} {vs ks:List Value} {f:Value} {e1:Nat} {R:PySem.Fin->Shared->Prop}
theorem Cg {n:Nat} {J:List Value->Shared->Prop} {body:Value->PUnit->Sem (ForInStep PUnit)}
  (hb:∀ x ks (s:Shared),ks.length < n->vs[ks.length]?=some x->J ks s->wpAny (model P w) A (body x ⟨⟩) (fun r s'=>r=.yield ⟨⟩/\∃ k,J (ks++[k]) s') E s):∀ (r ks:List Value) (s:Shared),ks.length+r.length=n->vs.drop ks.length=r->J ks s ->
   wpAny (model P w) A (forIn r PUnit.unit body) (fun _ s'=>∃ ks,ks.length=n/\J ks s') E s
 | [],ks,s,hl,hr,h=>by
  rw [List.forIn_nil];exact IQ ⟨ks,by simpa using hl,h⟩
 | x :: r,ks,s,hl,hr,h=>by
  rw [Jk] at hl;rw [List.forIn_cons];have hx:vs[ks.length]?=some x:=by
   have:(vs.drop ks.length)[0]?=some x:=by rw [hr];rfl
   rwa [List.getElem?_drop,Nat.add_zero] at this
  refine IH (JH (hb x ks s (by omega) hx h) (fun q s' hq=>?_) fun _ _ x=>x);obtain ⟨rfl,k,h2⟩:=hq;refine Cg hb r (ks++[k]) s' (by rw [IJ,Ku];omega) ?_ h2;rw [IJ,Ku,<-List.drop_drop,hr];rfl
theorem Ef {J:List Value->Shared->Prop} (h64:vs.length < 4096)
  (step:∀ x ks (s:Shared),vs[ks.length]?=some x->ks.length < 4096->J ks s->wpAny (model P w) A (call f [x]) (fun k s'=>(∃ e,s'.heap.get? kS=some (seqObj "list" (List.toArray ks) e))/\J (ks++[k]) { s' with heap:=s'.heap.update kS (Obj.mapSeq (·.push k)) }) (fun _ _=>False) s)
  (hJ:∀ ks s,J ks s->∃ e,s.heap.get? kS=some (seqObj "list" (List.toArray ks) e))
  (fin:∀ ks (s:Shared),ks.length=vs.length->J ks s->wpAny (model P w) A (ksk_end a false vs.toArray e1 (.ref kS) (List.toArray ks)) R E s) (h:J [] s) :
  wpAny (model P w) A (ksk_rest a f false vs.toArray e1 (.ref kS)) R E s:=by
 unfold ksk_rest;refine IH (Kd ?_);rw [List.forIn_toArray];refine IH (JH (Cg (n:=vs.length) (vs:=vs) (J:=J) (fun x ks s' hl hx hj=>?_) vs [] s (by simp) (by simp) h) (fun _ s' hd=>?_) fun _ _ x=>x)
 ·refine IH (wpAny_attempt (JH (step x ks s' hx (by omega) hj) (fun k s'' hk=>?_) fun _ _ hF=>hF.elim));obtain ⟨⟨e,g⟩,hj'⟩:=hk;try dsimp only
  refine IH (listUpdate_at g rfl ?_ (by rw [IW,Kb];omega) (Ju (Nat.le_of_eq (Array.size_push ..)) (by rw [IW,Kb];omega)));exact IQ ⟨rfl,k,hj'⟩
 ·obtain ⟨ks,hl,hj⟩:=hd;obtain ⟨e,g⟩:=hJ ks s' hj;try dsimp only
  refine IH (listItems_at g rfl ?_);exact fin ks s' hl hj
theorem Cw {st:SortSt} {e:Nat} {out:List Value} (hout:(arrOf st).map (·.2)=List.toArray out) (hz:out.length < 4096) (hkz:ks.length < 4096) (hf:failedOf st=none) (hne:a≠kS)
  (gk:s.heap.get? kS=some (seqObj "list" (List.toArray ks) e)) (ga:s.heap.get? a=some (seqObj "list" #[] e1))
  (h:R (.done (.ret .none)) { s with heap:=(s.heap.update kS (Obj.mapSeq fun _=>(#[]:Array Value))).update a (Obj.mapSeq fun _=>List.toArray out) }):wpAny (model P w) A (ksk_tail a false e1 (.ref kS) st) R E s:=by
 have ga':(s.heap.update kS (Obj.mapSeq fun _=>(#[]:Array Value))).get? a=some (seqObj "list" #[] e1):=(Kj _ _ (Ne.symm hne)).trans ga;unfold ksk_tail;try dsimp only
 rw [hout];refine IH (listUpdate_at gk rfl ?_ (by rw [IW,Kb];omega) (JZ _));refine IH (wpAny_letGo ?_);refine IH (seqEpoch_at ga' rfl ?_);refine IH (listUpdate_at ga' rfl ?_ (JZ _) (by show (List.toArray out).size<=_;rw [IW,Kb];omega));rw [hf];simp only [bne_self_eq_false,KP,KG];exact IQ h
theorem Il {e:Nat} {κ:SortKind} {lt:Nat->Nat->Bool} (hl:ks.length=vs.length) (h64:vs.length < 4096) (hne:a≠kS)
  (gk:s.heap.get? kS=some (seqObj "list" (List.toArray ks) e)) (ga:s.heap.get? a=some (seqObj "list" #[] e1))
  (hk:2<=vs.length->∀ Q:SortKind->Shared->Prop,Q κ s->wpAny (model P w) A (keyKind' (List.toArray ks)) Q (fun _ _=>False) s)
  (hc:∀ i j (C:Bool->Shared->Prop),i < vs.length->j < vs.length->C (lt i j) s->kas_ask P w A κ ks i j C s) (O:Ord lt vs.length)
  (h:∀ p,Pm vs.length p->Up lt p vs.length->R (.done (.ret .none)) { s with heap:=(s.heap.update kS (Obj.mapSeq fun _=>(#[]:Array Value))).update a (Obj.mapSeq fun _=>List.toArray (p.toList.map fun i=>vs.getD i Value.none)) }) :
  wpAny (model P w) A (ksk_end a false vs.toArray e1 (.ref kS) (List.toArray ks)) R E s:=by
 unfold ksk_end;dsimp only;rw [IV Jf,IV Jf];by_cases h2:vs.length < 2
 ·have hs:vs.toArray.size < 2:=by rw [IW];exact h2
  rw [IX hs,IX hs];refine IH (IQ ?_);show wpAny _ _ (pure (PUnit.unit,SortSt.mk' general' (ks.toArray.zip vs.toArray) #[] 7 none)>>=_) _ _ _;refine IH (IQ ?_);dsimp only;have er:(List.toArray (List.range vs.length)).map (kas_item (ks.toArray.zip vs.toArray))=ks.toArray.zip vs.toArray:=by
   have e:=kas_range (ks.toArray.zip vs.toArray)
   rwa [show (ks.toArray.zip vs.toArray).size=vs.length by simp [hl]] at e
  refine Cw (st:=SortSt.mk' general' (ks.toArray.zip vs.toArray) #[] 7 none) (kat_snds hl (p:=(List.range vs.length).toArray) er.symm) (by simpa using h64) (by omega) rfl hne gk ga (h _ (Array.Perm.refl _) fun i hi=>by omega)
 ·have hs:¬vs.toArray.size < 2:=by rw [IW];exact h2
  rw [IV hs,IV hs];refine IH (JH (hk (by omega) (fun κ' s'=>κ'=κ/\s'=s) ⟨rfl,rfl⟩) (fun κ' s0 hk'=>?_) fun _ _ x=>x.elim);obtain ⟨rfl,rfl⟩:=hk'
  refine IH (JH (wx (Q:=fun st' s'=>∃ p:Array Nat,p.size=vs.length/\arrOf st'=p.map (kas_item (ks.toArray.zip vs.toArray))/\failedOf st'=none/\(Pm vs.length p/\Up lt p vs.length)/\s'=s0)
   hl hc O fun p st' a1 a2 a3 a4 a5=>⟨p,a1,a2,a3,⟨a4,a5⟩,rfl⟩) ?_ fun _ _ x=>x)
  rintro ⟨⟨⟩,st'⟩ s' ⟨p,hp,har,hf,⟨h1,h2'⟩,rfl⟩;dsimp only;exact Cw (kat_snds hl har) (by rw [IK,Kg,hp];exact h64) (by omega) hf hne gk ga (h p h1 h2')
theorem Bx {d g:Addr} {es:Array DictEntry} {ep:Nat} {Q:Value->Shared->Prop} (hh:A.handled=none) (lo:(d==sysModules)=false) (ok:OkD d es ep s.heap) (hz:es.size < 4096)
  (h:∀ vs D kS e1 h' tk,vs=es.toList.map (·.key)->s.heap.objs.size<=D->D < kS->(∀ b o,s.heap.get? b=some o->h'.get? b=some o)->h'.get? D=some (seqObj "list" #[] e1)->h'.get? kS=some (seqObj "list" #[] 0) ->
   ∀ R:PySem.Fin->Shared->Prop,(∀ s',Q (.ref D) s'->R (.done (.ret .none)) s')->wpAny (model P w) A.in1.in1 (ksk_rest D (.ref g) false vs.toArray e1 (.ref kS)) R (fun _ _=>False) { s with heap:=h',toks:=tk }) :
  wpAny (model P w) A (call (.builtin "sorted") [.ref d] [(Str.ofString "key", .ref g)]) Q E s:=by
 refine call_function_entry_kw kind_sorted plain_sorted entry_sorted (ksk_s1 _ _) ?_;unfold Builtin.«sorted»
 refine IH (m:=checkCount "sorted" 1 1 _) (IQ ?_);refine IH (Gj hh lo ok (by rw [Kb];omega) fun vs h1 tk ev hsz hk=>?_);have hvl:vs.length < 4096:=by rw [ev,IK,Kg];exact hz
 refine IH (wpAny_newList ?_ (by rw [Kb];omega));have hoL:(h1.push (seqObj "list" vs.toArray 0)).get? h1.objs.size=some (seqObj "list" vs.toArray 0):=Jt _ rfl;refine IH (Ka (wpAny_call_entry_kw slot_list_sort ⟨_,hoL,rfl⟩ entry_list_sort ?body (ksk_l1 _ _)))
 case body =>
  show wpAny (model P w) A.in1.in1 (Builtin.«list.sort» ⟨[.ref h1.objs.size],[(Str.ofString "key", .ref g)]⟩) _ _ _
  rw [ksk_t1];unfold ksk_tree;obtain ⟨e1,ho1⟩:∃ e1,((h1.push (seqObj "list" vs.toArray 0)).update h1.objs.size (Obj.mapSeq fun _=>(#[]:Array Value))).get? h1.objs.size=some (seqObj "list" #[] e1):=⟨_,get?_update_seq hoL fun _=>#[]⟩;refine IH (listItems_at hoL rfl ?_);refine IH (listUpdate_at hoL rfl ?_ (by rw [IW,Kb];omega) (JZ _));refine IH (seqEpoch_at ho1 rfl ?_);refine IH (wpAny_newTuple ?_ (by show vs.length<=_;rw [Kb];omega));refine IH (wpAny_newList ?_ (JZ _));refine Ka ?_;have hks:(((h1.push (seqObj "list" vs.toArray 0)).update h1.objs.size (Obj.mapSeq fun _=>(#[]:Array Value))).push (seqObj "tuple" vs.toArray 0)).objs.size=h1.objs.size+2:=by
   rw [size_push',Heap.size_update,size_push']
  refine JH (h vs h1.objs.size (((h1.push (seqObj "list" vs.toArray 0)).update h1.objs.size (Obj.mapSeq fun _=>(#[]:Array Value))).push (seqObj "tuple" vs.toArray 0)).objs.size e1
   ((((h1.push (seqObj "list" vs.toArray 0)).update h1.objs.size (Obj.mapSeq fun _=>(#[]:Array Value))).push (seqObj "tuple" vs.toArray 0)).push (seqObj "list" #[] 0)) tk ev (Ll hsz) (by rw [hks];exact Nat.lt_succ_of_lt (Kx _)) (fun b o e=>?_)
   (Ja _ (Ja _ ho1)) (Jt _ rfl) _ fun s' hq=>?_) (fun _ _ z=>z) fun _ _ z=>z.elim
  ·have hb:b≠h1.objs.size:=JJ (Ji (hk b o e));exact Ja _ (Ja _ ((Kj _ _ (Ne.symm hb)).trans (Ja _ (hk b o e))))
  ·exact ⟨_,rfl,IQ ⟨_,rfl,hq⟩⟩
end
end L2
end
section
namespace L2
open PySem PySem.Spec PyProof.Rows PySem.W
abbrev Ky:=Int×Int×Str
def ltK (x y:Ky):Bool:=if x.1=y.1 then (if x.2.1=y.2.1 then decide (x.2.2.cps.toList < y.2.2.cps.toList) else decide (x.2.1 < y.2.1)) else decide (x.1 < y.1)
section
variable {P:Program} {w:World} {A:Around} {E:Value->Shared->Prop} {s:Shared}
end
theorem uM (x:Ky):ltK x x=false:=by
 unfold ltK;rw [IX rfl,IX rfl];exact Jz (List.lt_irrefl _)
theorem Bg {x y z:Ky} (h1:ltK x y=true) (h2:ltK y z=true):ltK x z=true:=by
 unfold ltK at *;split at h1 <;> split at h2
 ·rename_i a b;rw [IX (a.trans b)];split at h1 <;> split at h2
  ·rename_i c d;rw [IX (c.trans d)];exact Jr (List.lt_trans (JM h1) (JM h2))
  ·rename_i c d;rw [IV (by rw [c];exact d),c];exact h2
  ·rename_i c d;rw [IV (by rw [<- d];exact c),<-d];exact h1
  ·have:=JM h1;have:=JM h2;rw [IV (by omega)];exact Jr (by omega)
 ·rename_i a b;rw [IV (by rw [a];exact b),a];exact h2
 ·rename_i a b;rw [IV (by rw [<- b];exact a),<-b];exact h1
 ·have:=JM h1;have:=JM h2;rw [IV (by omega)];exact Jr (by omega)
theorem yw {x y:Ky} (hn:x≠y) (h:ltK x y=false):ltK y x=true:=by
 obtain ⟨x1,x2,x3⟩:=x;obtain ⟨y1,y2,y3⟩:=y;unfold ltK at *;dsimp only at *;split at h
 ·rename_i a;rw [IX a.symm];split at h
  ·rename_i b;rw [IX b.symm];refine Jr ?_;have h:=KO h
   have:y3.cps.toList≠x3.cps.toList:=fun z=>hn (by
    have:y3=x3:=by cases x3;cases y3;simpa using Array.toList_inj.mp z
    rw [a,b,this])
   exact KC fun n=>this (List.le_antisymm (List.not_lt.mp h) (List.not_lt.mp n))
  ·rename_i b;have h:=KO h;rw [IV (fun z=>b z.symm)];exact Jr (by omega)
 ·rename_i a;have h:=KO h;rw [IV (fun z=>a z.symm)];exact Jr (by omega)
end L2
end
section
namespace L2
open PySem PySem.Spec PyProof.Rows PySem.W
section
variable {X:Cx} {pins:List (Addr×Obj)} {σ:List (Option V)} {H:Hp} {s:Shared} {h':Heap}
theorem Inv.ux {a:Addr} {o:Obj} (I:Inv X ((a,o) :: pins) σ H s):∀ x c,X.env.cells.lookup x=some c->c≠a:=fun x c e z=>by
 obtain ⟨g,_,_,_,n⟩:=I.pin (a,o) (IS _ IU);obtain ⟨v,oc,h1,h2⟩:=I.cell x c e;subst z;rw [g] at h1;cases h1;first | exact n _ h2 | exact n _ h2.1 | exact n _ h2.2
theorem Inv.vR {p:Addr×Obj} (I:Inv X (p :: pins) σ H s):Inv X pins σ H s:=I.dC fun q hq=>I.pin q (IS _ (Jb _ hq))
theorem Inv.E9 {a:Addr} {o o':Obj} (I:Inv X ((a,o) :: pins) σ H s) (ha:X.s₀.heap.objs.size<=a) (hp:∀ p∈X.pn++pins,p.1≠a) (hs:∀ b u,b≠a->s.heap.get? b=some u->h'.get? b=some u) (g':h'.get? a=some o') (hc:∀ v,o'.data≠.cell v) :
  Inv X ((a,o') :: pins) σ H { s with heap:=h' }:=by
 obtain ⟨g,n,L,f,_⟩:=I.pin (a,o) (IS _ IU);have I2:Inv X pins σ H { s with heap:=h' }:=I.vR.turned (t':=s.toks) hs n L (.inr ha) I.ux hp;refine I2.dC fun p hp=>?_;rcases Jo.mp hp with rfl | hp
 ·exact ⟨g',n,L,f,hc⟩
 ·exact I2.pin p (IS _ hp)
theorem Inv.Hz {D k:Addr} {o:HO} (I:Inv X pins σ H s) (hD:X.s₀.heap.objs.size<=D) (hk:X.s₀.heap.objs.size<=k) (nD:H D=none) (nk:H k=none) (LD:D≠X.env.locals) (Lk:k≠X.env.locals)
  (cD:∀ x c,X.env.cells.lookup x=some c->c≠D) (ck:∀ x c,X.env.cells.lookup x=some c->c≠k) (pD:∀ p∈X.pn++pins,p.1≠D) (pk:∀ p∈X.pn++pins,p.1≠k)
  (hs:∀ b u,b≠D->b≠k->s.heap.get? b=some u->h'.get? b=some u) (new:b6 X.prog X.w (upd H D o) h' D o):Inv X pins σ (upd H D o) { s with heap:=h' }:=by
 have nd:∀ b u,H b=some u->b≠D:=fun b u e z=>by rw [z,nD] at e;cases e
 have nk':∀ b u,H b=some u->b≠k:=fun b u e z=>by rw [z,nk] at e;cases e
 have hc:∀ b,b ∉ [D,k]->b≠D/\b≠k:=fun b hb=>⟨fun z=>hb (by simp [z]),fun z=>hb (by simp [z])⟩;refine I.step (t':=s.toks) (g':=s.gens) (d':=s.drawn) (ch:=[D,k]) (fun b hb=>?_) (fun b o _ _ hb e _=>hs b o (hc b hb).1 (hc b hb).2 e) (fun b o _ _ hb e _=>⟨o.slots,hs b o (hc b hb).1 (hc b hb).2 e⟩) (fun b o hb _ n=>by rw [ay (hc b hb).1];exact n)
  (fun b o hb e=>⟨o,hs b o (hc b hb).1 (hc b hb).2 e⟩) (fun b xs e=>by rw [ay (nd b _ e)];exact e) (fun b o u e=>by rw [ay (nd b _ e)];exact e) (fun b ps e=>⟨#[],by rw [ay (nd b _ e),e];simp⟩) (fun m hm=>?_) (fun b u e=>?_) I.bare
 ·rcases Jo.mp hb with rfl | hb
  ·exact ⟨.inr hD,LD,cD,pD⟩
  ·rw [IZ.mp hb];exact ⟨.inr hk,Lk,ck,pk⟩
 ·obtain ⟨o,es,ep,ho,r⟩:=hm;exact ⟨o,es,ep,hs _ o (Ne.symm LD) (Ne.symm Lk) ho,r⟩
 ·by_cases z:b=D
  ·subst z;rw [aF] at e;cases e;exact new
  ·rw [ay z] at e;refine (I.hok b u e).nE (fun c v hc q=>?_) (fun c q=>by rw [ay (nd c _ q)];exact q) fun c xs q=>by rw [ay (nd c _ q)];exact q
   rcases hc with rfl | hc
   ·exact hs _ _ z (nk' _ _ e) q
   ·exact hs _ _ (nd c _ hc) (nk' c _ hc) q
end
end L2
end
section
namespace L2
open PySem PySem.Spec PyProof.Rows PySem.W
def valAt (xs:List (PyData×V×V)) (i:Nat):V:=((xs[i]?).map (·.2.1)).getD .non
abbrev Cx.in2 (X:Cx):Cx:={ X with A:=X.A.in1.in1,xe:=fun _ _=>False }
section
variable {X:Cx} {pins:List (Addr×Obj)} {σ:List (Option V)} {H:Hp} {s:Shared}
theorem Inv.in2 (I:Inv X pins σ H s):Inv X.in2 pins σ H s :=
 ⟨⟨I.ok.mod,I.ok.kind,I.ok.glob,I.ok.blt,I.ok.above,I.ok.inj,I.ok.has,I.ok.cab,I.ok.hd,I.ok.frames,I.ok.stk,I.ok.exf,I.ok.bs,I.ok.bsz,I.ok.ze,I.ok.Ag,I.ok.qt,I.ok.frf⟩,I.os,I.bare,I.base,I.loc,I.cell,I.free,I.iI,I.pin,I.hok,I.len⟩
theorem Inv.Hu (I:Inv X.in2 pins σ H s):Inv X pins σ H s :=
 ⟨⟨I.ok.mod,I.ok.kind,I.ok.glob,I.ok.blt,I.ok.above,I.ok.inj,I.ok.has,I.ok.cab,I.ok.hd,I.ok.frames,I.ok.stk,I.ok.exf,I.ok.bs,I.ok.bsz,I.ok.ze,I.ok.Ag,I.ok.qt,I.ok.frf⟩,I.os,I.bare,I.base,I.loc,I.cell,I.free,I.iI,I.pin,I.hok,I.len⟩
end
end L2
end
section
namespace L2
open PySem PySem.Spec PyProof.Rows PySem.W
section
variable {X:Cx} {k:Nat} {g:Addr} {fd:FuncData} {ps:List Str} {sp:Sp} {f:Str} {p pf pos kpos:Pos} {e:Expr} {te:TE}
end
end L2
end
section
namespace L2
open PySem PySem.Spec PyProof.Rows
theorem DmP.get {K:Fg} {F:Addr->Prop} {H:Hp}:∀ {kvs:List (PyData×PyData)} {xs:List (PyData×V×V)} {i:Nat} {x:PyData×V×V},DmP K F H kvs xs->xs[i]?=some x->(kvs.map (·.1))[i]?=some x.1/\Dm K F H x.1 x.2.1
 | [],xs,i,x,h,e=>by rw [show xs=[] from h] at e;simp at e
 | (k,d) :: kvs,xs,i,x,h,e=>by
  obtain ⟨j,v,r,rfl,h1,h2,h3,h4⟩:=h;cases i with
  | zero=>simp at e;subst e;exact ⟨rfl,h2⟩
  | succ i=>have:=DmP.get h4 (show r[i]?=some x by simpa using e);exact ⟨by simpa using this.1,this.2⟩
theorem DmP.dZ {K:Fg} {F:Addr->Prop} {H:Hp}:∀ {kvs:List (PyData×PyData)} {xs:List (PyData×V×V)},DmP K F H kvs xs->xs.length=kvs.length
 | [],xs,h=>by rw [show xs=[] from h];rfl
 | (k,d) :: kvs,xs,h=>by
  obtain ⟨j,v,r,rfl,h1,h2,h3,h4⟩:=h;rw [Jk,DmP.dZ h4,Jk]
section
variable {X:Cx} {k:Nat} {g:Addr} {fd:FuncData} {ps:List Str} {fn:Fn} {f:Str} {p pf pos kpos:Pos} {e:Expr} {te:TE}
end
end L2
end
section
namespace L2
open PySem PySem.Spec PyProof.Rows
def IG:PyData->List PyData->Option PR
 | .str z,[.str y]=>match Builtin.Str.occurrences z y 0 z.length 1 with | i :: _=>some (.dat (.int i)) | []=>none
 | _,_=>none
inductive Lxy:List Value->List Value->Bool->Prop
 | nil:Lxy [] [] false
 | ii (a b:Int) (t u:Tok) {r q:List Value} {z:Bool} (h:Lxy r q z):Lxy (.int a t :: r) (.int b u :: q) (if a=b then z else decide (a < b))
 | ss (a b:Str) (t u:Tok) {r q:List Value} {z:Bool} (h:Lxy r q z):Lxy (.str a t :: r) (.str b u :: q) (if a=b then z else decide (a.cps.toList < b.cps.toList))
theorem Lxy.len:∀ {xs ys:List Value} {z:Bool},Lxy xs ys z->xs.length=ys.length
 | _,_,_,.nil=>rfl
 | _,_,_,.ii _ _ _ _ h=>by rw [Jk,h.len,Jk]
 | _,_,_,.ss _ _ _ _ h=>by rw [Jk,h.len,Jk]
theorem vN {x y:Value} {xs ys:List Value} {z:Bool} (h:Lxy (x :: xs) (y :: ys) z) (A:Around) (s:Shared):∃ e z',SeqAt.EqAt A s x y e/\Lxy xs ys z'/\(e=true->z=z')/\(e=false->∀ (prog:Program) (w:World) (E:Value->Shared->Prop) (Q:Value->Shared->Prop),Q (.bool z) s->wpAny (model prog w) A (richCompare .Lt x y) Q E s):=by
 cases h with
 | ii a b t u h =>
  refine ⟨(a==b),_,SeqAt.EqAt.int_int a t b u,h,fun e=>by rw [IX (JD.mp e)],fun e prog w E Q q=>?_⟩;rw [IV (fun z=>by rw [z,JX] at e;cases e)] at q;exact (PyProof.Rows.lt_int q:wpAny (model prog w) A (compareOp .Lt (.int a t) (.int b u)) Q E s)
 | ss a b t u h =>
  refine ⟨(a==b),_,SeqAt.EqAt.str_str a t b u,h,fun e=>by rw [IX (JD.mp e)],fun e prog w E Q q=>?_⟩;rw [IV (fun z=>by rw [z,JX] at e;cases e)] at q;exact (PyProof.Rows.lt_str q:wpAny (model prog w) A (compareOp .Lt (.str a t) (.str b u)) Q E s)
section
open PySem.SeqAt
open PySem.AutoSeq1 (wpAny_loadPart')
open PySem.MeetsSeq PySem.MeetsSeq2 PySem.MeetsSeq3
theorem tq (l b:Addr) (items items2:Array Value) (n n2:Nat) (dd dd2:Option Addr) (sl sl2:Array (Option Value)) (z:Bool) (hi:Lxy items.toList items2.toList z) :
  Meets (Builtin.«tuple.__lt__» ⟨[.ref l,.ref b],[]⟩)
   (fun _ R s=>s.heap.get? l=some { cls:=.type "tuple", dict:=dd,data:=.seq items n,slots:=sl }/\s.heap.get? b=some { cls:=.type "tuple", dict:=dd2,data:=.seq items2 n2,slots:=sl2 } /\
    R (.ok (.ret (.bool z))) s) :=
 .of_wp fun prog w A R s h=>by
  obtain ⟨hp,g,d,tk,os⟩:=s;obtain ⟨hl,hb,h⟩:=h;have f2:=AutoSeq1.sub_tuple_tuple;have zl:items.size=items2.size:=by simpa using hi.len
  wp_walk using wpAny_loadPart' hl,wpAny_loadPart' hb,KY _ (fun rest b s'=>b.1=none/\s'=⟨hp,g,d,tk,os⟩/\∃ (vs ws:List Value) (z':Bool),rest=vs.zip ws/\Lxy vs ws z'/\R (.ok (.ret (.bool z'))) ⟨hp,g,d,tk,os⟩) _
  case turn =>
   rintro ⟨y,x⟩ rest b s' ⟨hb',rfl,vs,ws,z',hz,hv,hR⟩;cases vs with
   | nil=>rw [List.zip_nil_left] at hz;cases hz
   | cons v vs =>
    cases ws with
    | nil=>rw [List.zip_nil_right] at hz;cases hz
    | cons w1 ws =>
     rw [List.zip_cons_cons] at hz;injection hz with hyx hrest;injection hyx with hy hx;subst hy hx;obtain ⟨e,z2,he,h2,h3,h4⟩:=vN hv A.in1 ⟨hp,g,d,tk,os⟩;refine IH (he prog w _ _ ?_);cases e with
     | true =>
      rw [h3 rfl] at hR
      wp_walk
      exact ⟨rfl,rfl,_,_,_,hrest,h2,hR⟩
     | false =>
      have hri:=h4 rfl prog w
      wp_walk using hri
      exact ⟨_,rfl,by simpa using hR⟩
  case fin =>
   rintro ⟨b1,b2⟩ s' ⟨hb',rfl,vs,ws,z',hz,hv,hR⟩;simp only at hb';subst hb';have hv:z'=decide (items.size < items2.size):=by
    cases hv with
    | nil=>exact (Jz (by omega)).symm
    | ii a b t u h=>rw [List.zip_cons_cons] at hz;cases hz
    | ss a b t u h=>rw [List.zip_cons_cons] at hz;cases hz
   rw [hv] at hR
   wp_walk
   exact ⟨_,rfl,by simpa [Builtin.Tuple.tupleCompareSizes] using hR⟩
  case h =>
   exact ⟨rfl,rfl,items.toList,items2.toList,z,rfl,hi,h⟩
end
theorem tw {prog:Program} {w:World} {A:Around} {E:Value->Shared->Prop} {s:Shared} {l b:Addr} {items items2:Array Value} {z:Bool} {Q:Value->Shared->Prop} (hl:IsTup s.heap l items) (hb:IsTup s.heap b items2) (hi:Lxy items.toList items2.toList z)
  (hu:A.units < cLine) (h:Q (.bool z) s):wpAny (model prog w) A (compareOp .Lt (.ref l) (.ref b)) Q E s:=by
 obtain ⟨⟨cls,dd,data,sl⟩,ho,hc,n,hd⟩:=id hl;obtain ⟨⟨cls2,dd2,data2,sl2⟩,ho2,hc2,n2,hd2⟩:=id hb;simp only at hc hd hc2 hd2;subst hc hd hc2 hd2;exact richCompare_meets_room (op:=.Lt) ⟨_,ho,rfl⟩ ⟨_,ho2,rfl⟩ PySem.F.slot_tuple_lt PySem.F.entry_tuple_lt (PySem.F.args_tuple_lt_2 _ _) (tq l b items items2 n n2 dd dd2 sl sl2 z hi)
  ⟨ho,ho2,show Value.bool z≠Value.notImplemented/\Q (.bool z) s from ⟨(fun x=>nomatch x),h⟩⟩ hu
inductive LxV:List V->List V->Bool->Prop
 | nil:LxV [] [] false
 | ii (a b:Int) {r q:List V} {z:Bool} (h:LxV r q z):LxV (.int a :: r) (.int b :: q) (if a=b then z else decide (a < b))
 | ss (a b:Str) {r q:List V} {z:Bool} (h:LxV r q z):LxV (.str a :: r) (.str b :: q) (if a=b then z else decide (a.cps.toList < b.cps.toList))
theorem LxV.vals:∀ {xs ys:List V} {z:Bool} {us vs:List Value},LxV xs ys z->Vals xs us->Vals ys vs->Lxy us vs z
 | _,_,_,_,_,.nil,h1,h2=>by cases h1;cases h2;exact .nil
 | _,_,_,_,_,.ii a b h,h1,h2=>by
  cases h1 with
  | cons x r =>
   cases h2 with
   | cons y q =>
    obtain ⟨t,rfl⟩:=x;obtain ⟨u,rfl⟩:=y;exact .ii a b t u (h.vals r q)
 | _,_,_,_,_,.ss a b h,h1,h2=>by
  cases h1 with
  | cons x r =>
   cases h2 with
   | cons y q =>
    obtain ⟨t,rfl⟩:=x;obtain ⟨u,rfl⟩:=y;exact .ss a b t u (h.vals r q)
def Fu (K:Fg):R2:=fun x y H Q=>∃ a b xs ys z,x=.ref a/\y=.ref b/\SqT K H a xs/\SqT K H b ys/\LxV xs ys z/\Q (.bl z) H
theorem CN {X:Cx} (hu:X.A.units < cLine):OpR X (compareOp .Lt) (Fu X.K):=by
 intro pins s σ H x y v u Q I rx ry h;obtain ⟨a,b,xs,ys,z,rfl,rfl,ha,hb,hz,q⟩:=h;cases (show v=Value.ref a from rx);cases (show u=Value.ref b from ry);obtain ⟨its,r,p,_⟩:=I.tuple ha;obtain ⟨its2,r2,p2,_⟩:=I.tuple hb;exact tw p p2 (by simpa using hz.vals r r2) hu ⟨.bl z,H,I,rfl,q⟩
def Aa:List PyData->List PyData->Option Bool
 | [],[]=>some false
 | .int a :: r,.int b :: q=>(Aa r q).map fun z=>if a=b then z else decide (a < b)
 | .str a :: r,.str b :: q=>(Aa r q).map fun z=>if a=b then z else decide (a.cps.toList < b.cps.toList)
 | _,_=>none
theorem Bv {K:Fg} {F:Addr->Prop} {H:Hp}:∀ {ds es:List PyData} {xs ys:List V} {z:Bool},Aa ds es=some z->DmL K F H ds xs->DmL K F H es ys->LxV xs ys z
 | ds,es,xs,ys,z,h,h1,h2=>by
  induction ds generalizing es xs ys z with
  | nil =>
   cases es with
   | nil=>cases h;rw [show xs=[] from h1,show ys=[] from h2];exact .nil
   | cons e es=>simp [Aa] at h
  | cons d ds ih =>
   unfold Aa at h;split at h
   ·rename_i h0;cases h0
   ·rename_i a r b q e1;obtain ⟨z',hz,rfl⟩:=Jp.mp h;cases e1;obtain ⟨v,rr,rfl,hv,h1⟩:=h1;obtain ⟨w,qq,rfl,hw,h2⟩:=h2;cases (show v=.int a from hv);cases (show w=.int b from hw);exact .ii a b (ih _ _ _ _ hz h1 h2)
   ·rename_i a r b q e1;obtain ⟨z',hz,rfl⟩:=Jp.mp h;cases e1;obtain ⟨v,rr,rfl,hv,h1⟩:=h1;obtain ⟨w,qq,rfl,hw,h2⟩:=h2;cases (show v=.str a from hv.1);cases (show w=.str b from hw.1);exact .ss a b (ih _ _ _ _ hz h1 h2)
   ·cases h
def DY:PyData->PyData->Option PR
 | .tuple ds,.tuple es=>(Aa ds es).map fun z=>.dat (.bool z)
 | _,_=>none
def G0:Prm:=Prm.two Fu DY fun K F H x y u v pr Q hf hx hy hd q=>by
 unfold DY at hf;split at hf
 ·obtain ⟨z,hz,rfl⟩:=Jp.mp hf;obtain ⟨a,xs,rfl,sa,_,da⟩:=hx;obtain ⟨b,ys,rfl,sb,_,db⟩:=hy;exact ⟨a,b,xs,ys,z,rfl,rfl,sa,sb,Bv hz da db,q _ H (bf.rf H) rfl⟩
 ·cases hf
theorem yf {X:Cx} (hu:X.A.units < cLine):OpR X (compareOp .Lt) (fun x y=>G0.r X.K [x,y]):=CN hu
end L2
end
section
namespace L2
open PySem PySem.Spec PyProof.Rows
theorem wQ (xs:List V):lj xs none none (some (-1))=xs.reverse:=by
 unfold lj;rw [PySem.W.krv_bounds];show (sliceRange ((xs.length:Int) - 1) (-1) (-1)).filterMap (xs[·]?)=_;rw [PySem.W.krv_sliceRange,PySem.W.krv_range,List.filterMap_reverse];have h:=PySem.W.krv_all xs.toArray;rw [IW] at h;simp only [KU,List.toList_toArray] at h;rw [h]
def HQ:Prm:=Prm.two (fun K x y H Q=>∃ i,y=.int i/\∃ a xs,x=.ref a/\some i≠some 0/\SqL K H a xs/\∀ p,H p=none->(lj xs none none (some i)).length<=xs.length->Q (.ref p) (upd H p (.lst (lj xs none none (some i)))))
 (fun x y=>match x,y with | .list ds,.int i=>if i=-1 then some (.frs (.list ds.reverse)) else none | _,_=>none) fun K F H x y u v pr Q hf hx hy hd q=>by
 split at hf
 ·split at hf
  ·rename_i hi;cases hf;subst hi;obtain ⟨a,us,rfl,s1,z1,d1⟩:=pe hx;refine ⟨_,vInt hy,a,us,rfl,by decide,s1,fun p hp hl=>q _ _ (bf.nw _ hp) ?_⟩;rw [wQ];exact z8 hp (by rw [Ko];exact z1) d1.rev
  ·cases hf
 ·cases hf
end L2
end
section
namespace L2
open PySem PySem.Spec PyProof.Rows
def Ie (avs:List AV) (e:En) (QI:List PyData->Option Nat->En->Prop):Prop:=∃ x y xs ys,avs=[x,y]/\roL e x=some xs/\roL e y=some ys/\QI ((xs.zip ys).map fun p=>.tuple [p.1,p.2]) none e
theorem Ii {gd:List PyData} {as:XA} {env:En} {QI:List PyData->Option Nat->En->Prop} (h:WA gd as env fun avs e=>Ie avs e QI):WI gd (.zip as) env QI:=by
 obtain ⟨avs,e',h1,x,y,xs,ys,rfl,h3,h4,h2⟩:=h;exact ⟨_,_,_,by simp only [dI,h1,h3,h4],h2⟩
end L2
end
section
namespace L2
open PySem PySem.Spec PyProof.Rows PySem.W
structure KS where
 κ:Type
 dft:κ
 dec:DecidableEq κ
 lt:κ->κ->Bool
 irr:∀ x,lt x x=false
 tr:∀ {x y z},lt x y=true->lt y z=true->lt x z=true
 tot:∀ {x y},x≠y->lt x y=false->lt y x=true
 T:Fg->Hp->V->κ->Prop
 same:∀ {K H H' u k},T K H u k->bf H H'->T K H' u k
 Hh:Heap->Value->κ->Prop
 key:∀ {X:Cx} {pins:List (Addr×Obj)} {σ:List (Option V)} {H:Hp} {s:Shared} {v:V} {u:Value} {k:κ},Inv X pins σ H s->RelV v u->T X.K H v k->Hh s.heap u k
 ask:∀ {P:Program} {w:World} {A:Around} {E:Value->Shared->Prop} {s:Shared} {u v:Value} {a b:κ} {C:Bool->Shared->Prop},A.units+64 < cLine->Hh s.heap u a->Hh s.heap v b->C (lt a b) s->wpAny (model P w) A (keyLt' (tuples' true) u v) C E s
 kd:∀ {P:Program} {w:World} {A:Around} {E:Value->Shared->Prop} {s:Shared} {us:List Value} {Q:SortKind->Shared->Prop},(∀ u∈us,∃ k,Hh s.heap u k)->0 < us.length->Q (tuples' true) s->wpAny (model P w) A (keyKind' us.toArray) Q E s
 of:PyData->Option κ
 ofT:∀ {K:Fg} {F:Addr->Prop} {H:Hp} {d:PyData} {u:V} {k:κ},of d=some k->Dm K F H d u->T K H u k
def AU (S:KS) (ks:List S.κ) (i j:Nat):Bool:=S.lt (ks.getD i S.dft) (ks.getD j S.dft)
theorem Hb (S:KS) {ks:List S.κ} (h:ks.Nodup):Ord (AU S ks) ks.length where
 irr:=fun i=>S.irr _
 tr:=fun i j k=>S.tr
 tot:=fun i j hi hj hn e=>S.tot (fun z=>by
  rw [Jw,Jw,II hi,II hj] at z
  exact hn ((List.getElem?_inj hi h).mp (by rw [II hi,II hj];exact congrArg some z))) e
def tF (S:KS) (K:Fg) (sp:Sp):List V->Hp->VK->Prop:=fun us H Q=>∃ (d:Addr) (ep:Nat) (xs:List (PyData×V×V)) (ks:List S.κ),us=[.ref d]/\H d=some (.dD ep xs)/\xs.length < 4096/\ks.length=xs.length/\ks.Nodup /\
 (∀ (i:Nat) (x:PyData×V×V) (k:S.κ) (H':Hp),xs[i]?=some x->ks[i]?=some k->bf H H'->sp [x.2.1] H' (fun u H''=>bf H' H''/\S.T K H'' u k) E0) /\
 ∀ (H':Hp) (D:Addr) (p:Array Nat),bf H H'->H' D=none->Pm xs.length p->Up (AU S ks) p xs.length->Q (.ref D) (upd H' D (.lst (p.toList.map (valAt xs))))
section
variable {X:Cx} {pins:List (Addr×Obj)} {σ:List (Option V)} {H:Hp} {s:Shared}
theorem qF {S:KS} {k:Nat} {g:Addr} {fd:FuncData} {ps:List Str} {sp:Sp} {us:List V} {ws:List Value} {Q:VK} (F:dU X.prog X.w X.K X.mg X.base CX0 k g fd ps sp) (hr:cp (k+2) X.A) (hb:Binds X.K fd ps [])
  (I:Inv X pins σ H s) (rw_:Vals us ws) (h:tF S X.K sp us H Q):wpAny (model X.prog X.w) X.A (call (.builtin "sorted") ws [(Str.ofString "key", .ref g)]) (EP X pins σ Q) X.xe s:=by
 obtain ⟨d,ep,xs,ks,rfl,ed,h64,kl,kn,hsp,q⟩:=h;cases rw_ with
 | cons r0 r1 =>
 cases r1;have r0:_=Value.ref d:=r0;subst r0;obtain ⟨z,hd,nd,o,es,g1,g2,g3,g4⟩:=(show b6 X.prog X.w H s.heap d (.dD ep xs) from I.hok _ _ ed);have hsz:es.size=xs.length:=by rw [Lc g4];simp
 refine Bx hr.hd hd ⟨o,g1,g2,g3⟩ (by rw [hsz];exact h64) fun vs D kS e1 h' tk ev hD hDk keep gD gk R hR=>?_;have vl:vs.length=xs.length:=by rw [ev,IK,Kg,hsz]
 have hkS:s.heap.objs.size<=kS:=Ju hD (Ll hDk);have rel:∀ (i:Nat) (x:PyData×V×V) (v:Value),xs[i]?=some x->vs[i]?=some v->RelV x.2.1 v:=by
  intro i x v hx hv;obtain ⟨en,h1,h2⟩:=fV g4 i x hx;rw [ev,Jd,h1] at hv;cases hv;exact h2.2.1
 have neD:∀ p∈X.pn++pins,p.1≠D:=fun p hp=>JJ (Jm (Ji (I.pin p hp).1) hD);have nek:∀ p∈X.pn++pins,p.1≠kS:=fun p hp=>JJ (Jm (Ji (I.pin p hp).1) hkS);have I0:Inv X.in2 ((kS,seqObj "list" (List.toArray []) 0) :: (D,seqObj "list" #[] e1) :: pins) σ H { s with heap:=h',toks:=tk }:=by
  have I0:=(I.kept (t':=tk) keep).in2;refine I0.dC fun p hp=>?_;rcases Jo.mp hp with rfl | hp
  ·exact ⟨gk,I.hok.fresh hkS,Nat.ne_of_gt (Jm I.lt hkS),I.BI hkS,fun v z=>nomatch z⟩
  ·rcases Jo.mp hp with rfl | hp
   ·exact ⟨gD,I.hok.fresh hD,Nat.ne_of_gt (Jm I.lt hD),I.BI hD,fun v z=>nomatch z⟩
   ·exact I0.pin p (IS _ hp)
 have szD:X.s₀.heap.objs.size<=D:=Ju I.sz hD;have szk:X.s₀.heap.objs.size<=kS:=Ju I.sz hkS;have pk:∀ p∈X.pn++(D,seqObj "list" #[] e1) :: pins,p.1≠kS:=fun p hp=>by
  rcases Jx.mp hp with hp | hp
  ·exact nek p (Jq _ hp)
  ·rcases Jo.mp hp with rfl | hp
   ·exact JJ hDk
   ·exact nek p (IS _ hp)
 refine Ef (J:=fun ks' s=>∃ H' e,Inv X.in2 ((kS,seqObj "list" (List.toArray ks') e) :: (D,seqObj "list" #[] e1) :: pins) σ H' s/\bf H H'/\∀ i u,ks'[i]?=some u->∃ v k,RelV v u/\ks[i]?=some k/\S.T X.K H' v k) (by rw [vl];exact h64) ?_ ?_ ?_ ⟨H,0,I0,bf.refl _,fun i u z=>absurd z (by rw [show (([]:List Value)[i]?)=none from List.getElem?_nil];exact nofun)⟩
 ·rintro x ks' s' hx hl ⟨H',e,I',sm,hks⟩;have hi:ks'.length < xs.length:=by rw [<- vl];exact (IL.mp hx).1
  have hxi:=II hi;have hki:=II (show ks'.length < ks.length by rw [kl];exact hi);refine JH (xW (X:=X.in2) (us:=[x]) (vs:=[xs[ks'.length].2.1]) F (hr.in1.in1) hb .nil aI I' (.cons (rel _ _ _ hxi hx) .nil) (hsp _ _ _ H' hxi hki sm)) (fun u s'' hu=>?_) fun _ _ z=>z;obtain ⟨v,H'',I'',rv,sm',ky⟩:=hu;have gk':=(I''.pin (kS,seqObj "list" (List.toArray ks') e) (IS _ IU)).1;have ea:(List.toArray ks').push u=List.toArray (ks'++[u]):=by simp
  obtain ⟨c2,hc2⟩:∃ c2,(s''.heap.update kS (Obj.mapSeq (·.push u))).get? kS=some (seqObj "list" (List.toArray (ks'++[u])) c2):=⟨_,by rw [<- ea];exact get?_update_seq gk' (·.push u)⟩;refine ⟨⟨e,gk'⟩,H'',c2,I''.E9 szk pk (fun b o hb e=>(Kj _ _ (Ne.symm hb)).trans e) hc2 (fun v z=>nomatch z),sm.trans sm',fun i w hw=>?_⟩;rw [List.getElem?_append] at hw;split at hw
  ·obtain ⟨v',k',a1,a2,a3⟩:=hks i w hw;exact ⟨v',k',a1,a2,S.same a3 sm'⟩
  ·rename_i hge;have:i=ks'.length:=by
    have:=(IL.mp hw).1;rw [Ku] at this;omega
   subst this;rw [K3] at hw;cases hw;exact ⟨v,_,rv,hki,ky⟩
 ·rintro ks' s' ⟨H',e,I',_⟩;exact ⟨e,(I'.pin (kS,seqObj "list" (List.toArray ks') e) (IS _ IU)).1⟩
 ·rintro ks' s' hl ⟨H',e,I',sm,hks⟩;have gk':=I'.pin (kS,seqObj "list" (List.toArray ks') e) (IS _ IU);have gD':=I'.pin (D,seqObj "list" #[] e1) (IS _ (Jb _ IU));have ky:∀ i,i < vs.length->S.Hh s'.heap (ks'.getD i Value.none) (ks.getD i S.dft):=by
   intro i hi;obtain ⟨v,k,a1,a2,a3⟩:=hks i _ (II (show i < ks'.length by rw [hl];exact hi));rw [Jw,Jw,a2,II (show i < ks'.length by rw [hl];exact hi)];exact S.key I' a1 a3
  refine Il (κ:=tuples' true) (lt:=AU S ks) hl (by rw [vl];exact h64) (JJ hDk) gk'.1 gD'.1 (fun h2 Q' hq=>?_) (fun i j C hi hj hC=>?_) (by rw [vl,<-kl];exact Hb S kn) fun p hp hu=>hR _ ?_
  ·refine S.kd (s:=s') (us:=ks') (fun u hu=>?_) (by omega) hq;obtain ⟨i,hi⟩:=Kt.mp hu;obtain ⟨v,k,a1,a2,a3⟩:=hks i u hi;exact ⟨k,S.key I' a1 a3⟩
  ·unfold kas_ask;exact S.ask (hr.in1.in1).units (ky i hi) (ky j hj) hC
  ·have I2:Inv X pins σ H' s':=I'.vR.vR.Hu;rw [vl] at hp hu;have el:Vals (p.toList.map (valAt xs)) (p.toList.map fun i=>vs.getD i Value.none):=by
    have hb:∀ i∈p.toList,i < xs.length:=fun i hi=>by
     have:=(K7.mp hp).mem_iff.mp hi;simpa using this
    revert hb;generalize p.toList=l;intro hb;induction l with
    | nil=>exact .nil
    | cons i l ih =>
     refine .cons ?_ (ih fun j hj=>hb j (Jb _ hj));have hi:=hb i IU;unfold valAt;show RelV _ (vs.getD i Value.none);rw [II hi,Jw,II (show i < vs.length by rw [vl];exact hi)];exact rel i _ _ (II hi) (II (show i < vs.length by rw [vl];exact hi))
   have gDD:((s'.heap.update kS (Obj.mapSeq fun _=>(#[]:Array Value)))).get? D=some (seqObj "list" #[] e1):=(Kj _ _ (Nat.ne_of_gt hDk)).trans gD'.1;obtain ⟨c2,hc2⟩:∃ c2,((s'.heap.update kS (Obj.mapSeq fun _=>(#[]:Array Value))).update D (Obj.mapSeq fun _=>List.toArray (p.toList.map fun i=>vs.getD i Value.none))).get? D=some (seqObj "list" (List.toArray (p.toList.map fun i=>vs.getD i Value.none)) c2):=⟨_,get?_update_seq gDD fun _=>_⟩;refine ⟨.ref D,_,I2.Hz (o:=.lst (p.toList.map (valAt xs))) szD szk gD'.2.1 gk'.2.1 gD'.2.2.1 gk'.2.2.1 (I'.vR.ux) I'.ux neD nek (fun b u b1 b2 e=>(Kj _ _ (Ne.symm b1)).trans ((Kj _ _ (Ne.symm b2)).trans e)) ⟨?_,_,c2,el,hc2⟩,rfl,q H' D p sm gD'.2.1 hp hu⟩;rw [IK,Kg,hp.size,Kb];omega
end
section
variable {X:Cx} {k:Nat} {g:Addr} {fd:FuncData} {ps:List Str} {sp:Sp} {f:Str} {p pf pos kpos:Pos} {e:Expr} {te:TE}
theorem wO {S:KS} (F:dU X.prog X.w X.K X.mg X.base CX0 k g fd ps sp) (hr:cp (k+2) X.A) (hb:Binds X.K fd ps []) (hgs:Gl X "sorted") (hms:X.mg "sorted" = none) (hv:bootBuiltins "sorted" = some (.builtin "sorted")) (hgf:Gl X f) (hmf:X.mg f=some (.ref g)) (hdf:(f==("__debug__" : Str))=false)
  (ha:PA X [e] (ab te aB)) (h1:PySem.W.isStarred e=false):PE X (.Call (.Name "sorted" p) [e] [⟨some "key", .Name f pf,kpos⟩] pos) (tCB (tF S X.K sp) (ab te aB)):=by
 intro pins s σ H Q I h;refine wpAny_Call_Name_kw (nC I hgs hms hv ?_ (by decide) (by decide));refine callWith_kw (thn (ha pos pins s σ H _ I h) fun us s1 ⟨vs,H1,I1,r1,q1⟩=>?_) (by rw [bU h1];rfl) (by rw [bU h1];rfl) (by rfl) (by rfl);have pk:PK X [⟨some "key", .Name f pf,kpos⟩] (ab (tC (.ref g)) aB):=zz (sJ hgf hmf rfl hdf) Ct;refine thn (pk pos pins s1 σ H1 (fun zs H2=>zs=[.ref g]/\H2=H1) I1 ⟨rfl,rfl⟩) fun ws s2 ⟨zs,H2,I2,rz,e1,e2⟩=>?_;subst e1 e2;cases rz with
 | cons a b =>
  cases b;have a:_=Value.ref g:=a;subst a;exact qF F hr hb I2 r1 q1
end
namespace Sg
def Dz (S:KS) (f:Fn) (d:PyData):Option S.κ:=match f.F [d] with | some (.dat k,[])=>S.of k | _=>none
def kX (S:KS) (f:Fn):List PyData->Option (List S.κ)
 | []=>some []
 | d :: ds=>match Dz S f d,kX S f ds with | some k,some ks=>some (k :: ks) | _,_=>none
def zO {S:KS} (x:S.κ×PyData):List (S.κ×PyData)->List (S.κ×PyData)
 | []=>[x]
 | y :: r=>if S.lt x.1 y.1=true then x :: y :: r else y :: zO x r
def rX {S:KS}:List (S.κ×PyData)->List (S.κ×PyData)
 | []=>[]
 | x :: r=>zO x (rX r)
theorem jG {S:KS} (x:S.κ×PyData):∀ l,(zO x l).Perm (x :: l)
 | []=>Ks _
 | y :: r=>by
  unfold zO;split
  ·exact Ks _
  ·exact ((jG x r).cons y).trans (List.Perm.swap ..)
theorem gh {S:KS}:∀ l:List (S.κ×PyData),(rX l).Perm l
 | []=>Ks _
 | x :: r=>(jG x _).trans ((gh r).cons x)
theorem tI {S:KS} (x:S.κ×PyData):∀ l,(∀ y∈l,x.1≠y.1)->l.Pairwise (fun a b=>S.lt a.1 b.1=true)->(zO x l).Pairwise fun a b=>S.lt a.1 b.1=true
 | [],_,_=>by simp [zO]
 | y :: r,hn,h=>by
  obtain ⟨h1,h2⟩:=J9.mp h;unfold zO;split
  ·rename_i c;refine J9.mpr ⟨fun b hb=>?_,h⟩;rcases Jo.mp hb with rfl | hb
   ·exact c
   ·exact S.tr c (h1 b hb)
  ·rename_i c;refine J9.mpr ⟨fun b hb=>?_,tI x r (fun z hz=>hn z (Jb _ hz)) h2⟩;rcases Jo.mp ((jG x r).mem_iff.mp hb) with rfl | hb
   ·exact S.tot (hn y IU) (Bool.eq_false_iff.mpr c)
   ·exact h1 b hb
theorem oG {S:KS}:∀ l:List (S.κ×PyData),(l.map (·.1)).Nodup->(rX l).Pairwise fun a b=>S.lt a.1 b.1=true
 | [],_=>.nil
 | x :: r,h=>by
  obtain ⟨h1,h2⟩:=J2.mp h;exact tI x _ (fun y hy z=>h1 (JB.mpr ⟨y,(gh r).mem_iff.mp hy,z.symm⟩)) (oG r h2)
theorem wu {S:KS} {ks:List S.κ} {ds:List PyData} {p:Array Nat} (hl:ks.length=ds.length) (hn:ks.Nodup) (hp:Pm ds.length p) (hu:Up (AU S ks) p ds.length):(rX (ks.zip ds)).map (·.2)=p.toList.map fun i=>ds.getD i .none:=by
 have e1:(ks.zip ds).map (·.1)=ks:=by rw [List.map_fst_zip (Nat.le_of_eq hl)]
 have zl:(ks.zip ds).length=ds.length:=by rw [List.length_zip,hl,Nat.min_self]
 have O:Ord (AU S ks) ds.length:=by rw [<- hl];exact Hb S hn
 have row:p.toList.map (fun i=>(ks.getD i S.dft,ds.getD i .none))=rX (ks.zip ds):=by
  refine List.Perm.eq_of_pairwise (le:=fun a b=>S.lt a.1 b.1=true) (fun a b _ _ h1 h2=>?_) ?_ (oG _ (by rw [e1];exact hn)) ?_
  ·have:=S.tr h1 h2;rw [S.irr _] at this;cases this
  ·rw [List.pairwise_map,J7];intro i j hi hj hij;have:=hu.all O hij (by rw [<- hp.size];simpa using hj);unfold at_ at this;rw [K4,K4,JU (by simpa using hi),JU (by simpa using hj)] at this;exact this
  ·refine (((K7.mp hp).map _).trans ?_).trans (gh _).symm;refine List.Perm.of_eq ?_;apply List.ext_getElem?;intro i;rw [List.toList_toArray,Jd];rcases Nat.lt_or_ge i ds.length with z | z
   ·have zk:i < ks.length:=by rw [hl];exact z
    rw [List.getElem?_range z,show (ks.zip ds)[i]?=some (ks[i],ds[i]) from List.getElem?_zip_eq_some.mpr ⟨II zk,II z⟩];simp [Jw,II (show i < ks.length by rw [hl];exact z),II z]
   ·rw [List.getElem?_eq_none (by rw [J5];exact z),List.getElem?_eq_none (by rw [zl];exact z)];rfl
 rw [<- row,KA];rfl
theorem m6 {S:KS} {f:Fn}:∀ {ds:List PyData} {ks:List S.κ},kX S f ds=some ks->ks.length=ds.length
 | [],ks,h=>by cases h;rfl
 | d :: ds,ks,h=>by
  unfold kX at h;split at h
  ·rename_i k ks' _ h2;cases h;rw [Jk,m6 h2,Jk]
  ·cases h
theorem lW {S:KS} {f:Fn}:∀ {ds:List PyData} {ks:List S.κ} {i:Nat} {d:PyData} {k:S.κ},kX S f ds=some ks->ds[i]?=some d->ks[i]?=some k->Dz S f d=some k
 | [],ks,i,d,k,h,h1,h2=>by simp at h1
 | e :: ds,ks,i,d,k,h,h1,h2=>by
  unfold kX at h;split at h
  ·rename_i k' ks' h3 h4;cases h;cases i with
   | zero=>simp at h1 h2;subst h1 h2;exact h3
   | succ i=>exact lW h4 (by simpa using h1) (by simpa using h2)
  ·cases h
def pz (S:KS) (f:Fn):List PyData->Option PR
 | [.dict kvs]=>match kX S f (kvs.map (·.1)) with
  | some ks=>if kvs.length < 4096/\@decide ks.Nodup (@List.nodupDecidable _ S.dec ks)=true then some (.frs (.list ((rX (ks.zip (kvs.map (·.1)))).map (·.2)))) else none
  | none=>none
 | _=>none
def mI (S:KS) (f:Fn) (hm:f.ms=[.dat]):Prm where
 r:=fun K=>tF S K (fo f K)
 f:=pz S f
 ok:=by
  intro K F H ds vs pr Q hf hv hF q;unfold pz at hf;split at hf
  ·rename_i kvs;split at hf
   ·rename_i ks hks;split at hf
    ·rename_i c;replace c:kvs.length < 4096/\ks.Nodup:=⟨c.1,@of_decide_eq_true _ (_) c.2⟩;cases hf;obtain ⟨v,r,rfl,⟨a,rfl,ep,xs,ea,z,dp⟩,rfl⟩:=hv;have xl:=dp.dZ;have kl:ks.length=(kvs.map (·.1)).length:=m6 hks;have xk:xs.length=(kvs.map (·.1)).length:=by rw [xl,IK]
     refine ⟨a,ep,xs,ks,rfl,ea,by rw [xl];exact c.1,by rw [kl,xk],c.2,fun i x k H' hx hk sm=>?_,fun H' D p sm hD hp hu=>?_⟩
     ·obtain ⟨d1,d2⟩:=dp.get hx;have kf:=lW hks d1 hk;unfold Dz at kf;split at kf
      ·rename_i kd hFd;have d3:Dm K F H' x.1 x.2.1:=d2.pr (fun b o e _=>sm b o e) fun _ z=>z;refine ⟨F,[x.1],[],.dat kd,[],hFd,by rw [hm];exact ⟨d3,rfl⟩,fun b hb=>?_,fun v' H'' hs hr=>⟨fun b o e=>hs b o e (by simp),?_⟩⟩
       ·intro z;cases e:H b with
        | none=>exact hF b hb e
        | some o=>rw [sm b o e] at z;cases z
       ·exact S.ofT kf hr.1
      ·cases kf
     ·have hDn:H D=none:=sm.free hD;refine q _ _ (fun b o e=>?_) ⟨D,rfl,hDn,_,aF,?_,?_⟩
      ·have:b≠D:=fun z=>by rw [z,hDn] at e;cases e
       rw [ay this];exact sm b o e
      ·rw [IK,Kg,hp.size];exact z
      ·rw [xk] at hp hu;rw [wu kl c.2 hp hu];have hb:∀ i∈p.toList,i < xs.length:=fun i hi=>by
        have:=(K7.mp hp).mem_iff.mp hi;rw [xk];simpa using this
       have hU:∀ b,b≠D->upd H' D (.lst (p.toList.map (valAt xs))) b=H' b:=fun b hb=>ay hb;generalize upd H' D (.lst (p.toList.map (valAt xs)))=H9 at hU;revert hb;generalize p.toList=l;intro hb;induction l with
       | nil=>exact rfl
       | cons i l ih =>
        have hi:=hb i IU;obtain ⟨d1,d2⟩:=dp.get (II hi);refine ⟨_,_,rfl,?_,ih fun j hj=>hb j (Jb _ hj)⟩;show Dm K _ _ ((kvs.map (·.1)).getD i .none) (valAt xs i);unfold valAt;rw [Jw,d1,II hi];have d3:Dm K F H' xs[i].1 xs[i].2.1:=d2.pr (fun b o e _=>sm b o e) fun _ z=>z;refine (d3.fresh hD).pr (fun b o e _=>?_) fun _ z=>z;have:b≠D:=fun z=>by rw [z,hD] at e;cases e
        rw [hU b this];exact e
    ·cases hf
   ·cases hf
  ·cases hf
section
variable {X:Cx} {k:Nat} {g:Addr} {fd:FuncData} {ps:List Str} {fn:Fn} {f:Str} {p pf pos kpos:Pos} {e:Expr} {te:TE}
theorem BE (S:KS) (hm:fn.ms=[.dat]) (F:dU X.prog X.w X.K X.mg X.base CX0 k g fd ps (fo fn X.K)) (hr:cp (k+2) X.A) (hb:Binds X.K fd ps []) (hgs:Gl X "sorted") (hms:X.mg "sorted" = none) (hv:bootBuiltins "sorted" = some (.builtin "sorted")) (hgf:Gl X f) (hmf:X.mg f=some (.ref g)) (hdf:(f==("__debug__" : Str))=false)
  (ha:JA X [e] (ab te aB)) (h1:PySem.W.isStarred e=false):JE X (.Call (.Name "sorted" p) [e] [⟨some "key", .Name f pf,kpos⟩] pos) (tCB ((mI S fn hm).r X.K) (ab te aB)):=⟨wO F hr hb hgs hms hv hgf hmf hdf ha.h h1⟩
end
end Sg
abbrev Fy:=Str×Str×Ky
def ltF (x y:Fy):Bool:=if x.1=y.1 then (if x.2.1=y.2.1 then ltK x.2.2 y.2.2 else decide (x.2.1.cps.toList < y.2.1.cps.toList)) else decide (x.1.cps.toList < y.1.cps.toList)
theorem ug (x:Fy):ltF x x=false:=by
 unfold ltF;rw [IX rfl,IX rfl];exact uM _
theorem zI {x y:Str} (h:x.cps.toList=y.cps.toList):x=y:=by
 cases x;cases y;simpa using Array.toList_inj.mp h
theorem u7 (x:Str):¬x.cps.toList < x.cps.toList:=List.lt_irrefl _
theorem x9 {x y z:Fy} (h1:ltF x y=true) (h2:ltF y z=true):ltF x z=true:=by
 obtain ⟨x1,x2,x3⟩:=x;obtain ⟨y1,y2,y3⟩:=y;obtain ⟨z1,z2,z3⟩:=z;unfold ltF at *;dsimp only at *;split at h1 <;> split at h2
 ·rename_i a b;rw [IX (a.trans b)];split at h1 <;> split at h2
  ·rename_i c d;rw [IX (c.trans d)];exact Bg h1 h2
  ·rename_i c d;rw [IV (by rw [c];exact d),c];exact h2
  ·rename_i c d;rw [IV (by rw [<- d];exact c),<-d];exact h1
  ·have:=List.lt_trans (JM h1) (JM h2);rw [IV (fun e=>by rw [e] at this;exact u7 _ this)];exact Jr this
 ·rename_i a b;rw [IV (by rw [a];exact b),a];exact h2
 ·rename_i a b;rw [IV (by rw [<- b];exact a),<-b];exact h1
 ·have:=List.lt_trans (JM h1) (JM h2);rw [IV (fun e=>by rw [e] at this;exact u7 _ this)];exact Jr this
theorem tD {x y:Str} (hn:¬x=y) (h:¬x.cps.toList < y.cps.toList):y.cps.toList < x.cps.toList :=
 KC fun n=>hn (zI (List.le_antisymm (List.not_lt.mp n) (List.not_lt.mp h)))
theorem r8 {x y:Fy} (hn:x≠y) (h:ltF x y=false):ltF y x=true:=by
 obtain ⟨x1,x2,x3⟩:=x;obtain ⟨y1,y2,y3⟩:=y;unfold ltF at *;dsimp only at *;split at h
 ·rename_i a;rw [IX a.symm];split at h
  ·rename_i b;rw [IX b.symm];exact yw (fun z=>hn (by rw [a,b,z])) h
  ·rename_i b;rw [IV (fun z=>b z.symm)];exact Jr (tD b (KO h))
 ·rename_i a;rw [IV (fun z=>a z.symm)];exact Jr (tD a (KO h))
abbrev FyV (k:Fy):List V:=[.int k.2.2.1,.int k.2.2.2.1,.str k.2.2.2.2]
def FyT (K:Fg) (H:Hp) (u:V) (k:Fy):Prop:=∃ t t2,u=.ref t/\SqT K H t [.str k.1,.str k.2.1,.ref t2]/\SqT K H t2 (FyV k)/\PyData.strOk k.2.2.2.2=true
theorem o5 {K:Fg} {H H':Hp} {t:Addr} {xs:List V} (h:SqT K H t xs) (e:bf H H'):SqT K H' t xs:=by
 rcases h with (h | ⟨o,h⟩) | h
 ·exact .inl (.inl (e _ _ h))
 ·exact .inl (.inr ⟨o,e _ _ h⟩)
 ·exact .inr h
def FyH (h:Heap) (u:Value) (k:Fy):Prop:=∃ t t2 a1 a2 b1 b2 b3,u=.ref t/\IsTup h t #[.str k.1 a1,.str k.2.1 a2,.ref t2]/\IsTup h t2 #[.int k.2.2.1 b1,.int k.2.2.2.1 b2,.str k.2.2.2.2 b3]/\PyData.strOk k.2.2.2.2=true
theorem DA {X:Cx} {pins:List (Addr×Obj)} {σ:List (Option V)} {H:Hp} {s:Shared} {v:V} {u:Value} {k:Fy} (I:Inv X pins σ H s) (r:RelV v u) (h:FyT X.K H v k):FyH s.heap u k:=by
 obtain ⟨t,t2,rfl,h,h',so⟩:=h;obtain ⟨its,r2,h2,_⟩:=I.tuple h;obtain ⟨its',r3,h3,_⟩:=I.tuple h';cases r2 with
 | cons a r2 =>
  cases r2 with
  | cons b r2 =>
   cases r2 with
   | cons c r2 =>
    cases r2;obtain ⟨t1,rfl⟩:=a;obtain ⟨t4,rfl⟩:=b;have c:_=Value.ref t2:=c;subst c;cases r3 with
    | cons a r3 =>
     cases r3 with
     | cons b r3 =>
      cases r3 with
      | cons c r3 =>
       cases r3;obtain ⟨q1,rfl⟩:=a;obtain ⟨q2,rfl⟩:=b;obtain ⟨q3,rfl⟩:=c;exact ⟨t,t2,t1,t4,q1,q2,q3,r,h2,h3,so⟩
def kyD (k:Ky):PyData:=.tuple [.int k.1,.int k.2.1,.str k.2.2]
theorem uU (a b:Ky):PyData.eqv (kyD a) (kyD b)=true↔a=b:=by
 obtain ⟨a1,a2,a3⟩:=a;obtain ⟨b1,b2,b3⟩:=b;simp [kyD,PyData.eqv,PyData.eqvAll]
theorem pB {h:Heap} {t:Addr} {k:Ky} {b1 b2 b3:Tok} (hx:IsTup h t #[.int k.1 b1,.int k.2.1 b2,.str k.2.2 b3]):∃ as,Reads h (.ref t) (kyD k) as:=by
 obtain ⟨o,h1,h2,n,h4⟩:=hx;exact ⟨_,.tuple h1 h2 h4 (.cons (.int _ _) (.cons (.int _ _) (.cons (.str _ _) .nil)))⟩
theorem jf {k:Ky} (h:PyData.strOk k.2.2=true):SeqAt.shaped (kyD k)=true:=by
 have d:(kyD k).depth<=64:=by simp [kyD,PyData.depth,PyData.depthAll]
 have l:(kyD k).canLay0=true:=by simp [kyD,PyData.canLay0,PyData.canLayAll0,h]
 simp [SeqAt.shaped,l,d]
theorem Dq {P:Program} {w:World} {A:Around} {E:Value->Shared->Prop} {s:Shared} {u v:Value} {a b:Fy} {C:Bool->Shared->Prop} (hu:A.units+64 < cLine) (hx:FyH s.heap u a) (hy:FyH s.heap v b) (h:C (ltF a b) s):wpAny (model P w) A (keyLt' (tuples' true) u v) C E s:=by
 obtain ⟨x,x',t1,t2,t3,t4,t5,rfl,hx,hx',ox⟩:=hx;obtain ⟨y,y',u1,u2,u3,u4,u5,rfl,hy,hy',oy⟩:=hy;obtain ⟨ox,gx,cx,n,dx⟩:=hx;obtain ⟨oy,gy,cy,k,dy⟩:=hy;unfold ltF at h;refine kat_lt gx dx gy dy ?_;show KatLex P w A true _ C [(.str a.1 t1,.str b.1 u1),(.str a.2.1 t2,.str b.2.1 u2),(.ref x',.ref y')] 0 s;refine kat_cons (eqBool_str (kat_go (fun e=>kat_yes ?_) fun e=>kat_no (oneLt_str ?_)))
 ·rw [IX (JD.mp e)] at h;refine kat_cons (eqBool_str (kat_go (fun e=>kat_yes ?_) fun e=>kat_no (kat_one _ _ (lt_str ?_))))
  ·rw [IX (JD.mp e)] at h;obtain ⟨as,ra⟩:=pB (k:=a.2.2) hx';obtain ⟨bs,rb⟩:=pB (k:=b.2.2) hy';refine kat_cons (SeqAt.eqAt_reads _ _ A s _ _ as bs ra rb (SeqAt.canLay_of_shaped (jf ‹_›)) (SeqAt.canLay_of_shaped (jf ‹_›)) (SeqAt.room_of_shaped (jf ‹_›) hu) P w _ _ (kat_go (fun e=>kat_yes ?_) fun e=>kat_no (kat_one _ _ ?_)))
   ·have e:=(uU _ _).mp e;rw [e,uM] at h;exact kat_nil h
   ·have ne:a.2.2≠b.2.2:=fun z=>by rw [(uU _ _).mpr z] at e;cases e
    refine tw hx' hy' (.ii _ _ _ _ (.ii _ _ _ _ (.ss _ _ _ _ .nil))) (by omega) ?_;have el:(if a.2.2.1=b.2.2.1 then if a.2.2.2.1=b.2.2.2.1 then if a.2.2.2.2=b.2.2.2.2 then false else decide (a.2.2.2.2.cps.toList < b.2.2.2.2.cps.toList) else decide (a.2.2.2.1 < b.2.2.2.1) else decide (a.2.2.1 < b.2.2.1))=ltK a.2.2 b.2.2:=by
     unfold ltK;split
     ·split
      ·split
       ·rename_i z;rw [z,Jz (List.lt_irrefl _)]
       ·rfl
      ·rfl
     ·rfl
    rw [el];exact h
  ·rw [IV (fun z=>by rw [z,JX] at e;cases e)] at h;exact h
 ·rw [IV (fun z=>by rw [z,JX] at e;cases e)] at h;exact h
theorem Dj {h:Heap}:∀ {us:List Value},(∀ u∈us,∃ k,FyH h u k)->∃ fs,KatTups h us fs/\fs.length=us.length/\∀ v∈fs,∃ i t,v=.str i t
 | [],_=>⟨[],trivial,rfl,fun _ z=>nomatch z⟩
 | u :: us,hu=>by
  obtain ⟨k,t,t2,t1,a2,a3,a4,a5,rfl,⟨o,g,c,n,d⟩,_⟩:=hu u IU;obtain ⟨fs,h1,h2,h3⟩:=Dj fun v hv=>hu v (Jb _ hv);refine ⟨.str k.1 t1 :: fs,KatTups.cons g c d rfl h1,by rw [Jk,h2,Jk],fun v hv=>?_⟩;rcases Jo.mp hv with rfl | hv
  ·exact ⟨_,_,rfl⟩
  ·exact h3 v hv
def Hs:PyData->Option Fy | .tuple [.str a,.str b,.tuple [.int i,.int j,.str x]]=>some (a,b,i,j,x) | _=>none
def fyS:KS where
 κ:=Fy
 dft:=("", "", 0,0, "")
 dec:=inferInstance
 lt:=ltF
 irr:=ug
 tr:=x9
 tot:=r8
 T:=FyT
 same:=fun ⟨t,t2,e,h1,h2,h3⟩ sm=>⟨t,t2,e,o5 h1 sm,o5 h2 sm,h3⟩
 Hh:=FyH
 key:=DA
 ask:=Dq
 kd:=fun {P w A E s us Q} hu h0 hq=>by
  obtain ⟨fs,t1,t2,t3⟩:=Dj hu;refine kat_kind (T:=.type "str") t1 (by rw [t2];exact h0) (fun v hv=>?_) rfl hq;obtain ⟨i,t,rfl⟩:=t3 v hv;exact Looks.of_pure rfl
 of:=Hs
 ofT:=fun {K F H d u k} e h=>by
  unfold Hs at e;split at e
  ·cases e;obtain ⟨t,ys,rfl,sq,_,u1,r1,rfl,e1,u2,r2,rfl,e2,u3,r3,rfl,e3,rfl⟩:=h;obtain ⟨t2,zs,rfl,sq2,_,w1,q1,rfl,f1,w2,q2,rfl,f2,w3,q3,rfl,f3,rfl⟩:=e3;have e1:u1=_:=e1.1;have e2:u2=_:=e2.1;have f1:w1=_:=f1;have f2:w2=_:=f2;have f4:w3=_:=f3.1;subst e1 e2 f1 f2 f4;exact ⟨t,t2,rfl,sq,sq2,f3.2.2⟩
  ·cases e
end L2
end
section
namespace L2
open PySem PySem.Spec PyProof.Rows
theorem ue {S:KS} {f:Fn} {hm:f.ms=[.dat]} {e:En} {x:AV} {kvs:List (PyData×PyData)} {ks:List S.κ} {Q:RV->En->Prop} (h1:bG e [x]=some [.dict kvs]) (h2:Sg.kX S f (kvs.map (·.1))=some ks) (h3:kvs.length < 4096) (h4:ks.Nodup) (q:∀ r,r=(Sg.rX (ks.zip (kvs.map (·.1)))).map (·.2)->Q (.frs (.list r)) e):WPr (Sg.mI S f hm) [x] e Q:=by
 have e:(Sg.mI S f hm).f [.dict kvs]=some (PR.frs (.list ((Sg.rX (ks.zip (kvs.map (·.1)))).map (·.2)))):=by
  show Sg.pz S f [.dict kvs]=_;simp only [Sg.pz,h2];rw [IX ⟨h3,@decide_eq_true _ (_) h4⟩]
 exact ⟨_,_,h1,e,q _ rfl⟩
theorem pW {α β γ:Type} (f:α->β) (g:α->γ):∀ U:List α,(U.map f).zip (U.map g)=U.map fun a=>(f a,g a)
 | []=>rfl
 | a :: U=>by rw [JK,JK,List.zip_cons_cons,pW f g U];rfl
theorem Bq {S:KS} {α:Type} (key:α->S.κ) (enc:α->PyData) {U L:List α} (hU:(U.map key).Nodup) (hL:L.Pairwise fun a b=>S.lt (key a) (key b)=true) (hp:L.Perm U):(Sg.rX ((U.map key).zip (U.map enc))).map (·.2)=L.map enc:=by
 have ez:=pW key enc U;have row:L.map (fun a=>(key a,enc a))=Sg.rX ((U.map key).zip (U.map enc)):=by
  refine List.Perm.eq_of_pairwise (le:=fun a b=>S.lt a.1 b.1=true) (fun a b _ _ h1 h2=>?_) ?_ (Sg.oG _ ?_) ?_
  ·have:=S.tr h1 h2;rw [S.irr] at this;cases this
  ·rw [List.pairwise_map];exact hL
  ·rw [List.map_fst_zip (by simp)];exact hU
  ·refine List.Perm.trans ?_ (Sg.gh _).symm;rw [ez];exact hp.map _
 rw [<- row,KA];rfl
end L2
end
section
namespace L2
open PySem PySem.Spec PyProof.Rows PySem.W
theorem G5 {X:Cx} {tg e:Expr} {te:TE} (h:JE X e te):JI X tg e (DO X.K te):=⟨fun pins s σ H R I q=>q.elim (sr h.h pins s σ H R I) (BZ h.h pins s σ H R I)⟩
def DF (K:Fg):V->Hp->VK->Prop:=fun x H Q=>∃ F d,Vw K F H d x/\∀ H',bf H H'->Q (.bl (isL d||isT d)) H'
def yj:Prm:=Prm.one DF (fun d=>some (.dat (.bool (isL d||isT d)))) fun K F H x u pr Q hf hx hd q=>by
 cases hf;exact ⟨F,x,hx,fun H' sm=>q _ H' sm rfl⟩
def Ew (K:Fg):List V->Hp->VK->Prop:=fun vs H Q=>∃ x tp F d,vs=[x,.ref tp]/\H tp=some (.tup [.ty "list", .ty "tuple"])/\Vw K F H d x/\Q (.bl (isL d||isT d)) H
theorem wm {K:Fg} (d:PyData):PySem.W.kitAny K (.type (tyN d)) [.type "list", .type "tuple"]=some (isL d||isT d):=by
 unfold PySem.W.kitAny PySem.W.kitAny PySem.W.kitAny;rw [BK d,Cr d];cases isL d <;> cases isT d <;> rfl
theorem zc {X:Cx}:bM X (.builtin "isinstance") (Ew X.K):=by
 rintro pins s σ H xs us Q I r ⟨x,tp,F,d,rfl,ht,hv,q⟩;obtain ⟨u,w',rfl,r1,r2⟩:=vals2 r;cases (show w'=Value.ref tp from r2);obtain ⟨_,its,rv,⟨o,g1,g2,n,g3⟩⟩:=(show b6 X.prog X.w H s.heap tp (.tup [.ty "list", .ty "tuple"]) from I.hok tp _ ht);obtain ⟨u1,u2,rfl,ra,rb⟩:=vals2 rv;cases (show u1=Value.type "list" from ra);cases (show u2=Value.type "tuple" from rb);have htp:s.heap.get? tp=some ⟨.type "tuple", o.dict,.seq [Value.type "list", Value.type "tuple"].toArray n,o.slots⟩:=by
  rw [g1];obtain ⟨c,dd,da,sl⟩:=o;have g2:c=.type "tuple" := g2;have g3:da=_:=g3;subst g2 g3;rfl
 have e:=wm (K:=X.K) d;have fin:∀ tk,EP X pins σ Q (.bool (isL d||isT d)) { s with toks:=tk }:=fun tk=>⟨.bl _,H,I.tok _,rfl,q⟩;cases d with
 | none=>rw [Hf hv] at r1;cases (show u=Value.none from r1);exact KJ PySem.W.kitx_none I.kIn True.intro htp e (fun z=>nomatch z) fin
 | bool y=>rw [vBl hv] at r1;cases (show u=Value.bool y from r1);exact KJ PySem.W.kitx_bool I.kIn True.intro htp e (fun z=>nomatch z) fin
 | int i=>rw [vInt hv] at r1;obtain ⟨t,q⟩:=(show ∃ t,u=Value.int i t from r1);cases q;exact KJ PySem.W.kitx_int I.kIn True.intro htp e (fun z=>nomatch z) fin
 | str y=>rw [(vStr hv).1] at r1;obtain ⟨t,q⟩:=(show ∃ t,u=Value.str y t from r1);cases q;exact KJ PySem.W.kitx_str I.kIn True.intro htp e (fun z=>nomatch z) fin
 | list ds =>
  obtain ⟨a,xs,rfl,l,z,rs⟩:=pe hv;cases (show u=Value.ref a from r1);obtain ⟨its,rv,⟨o,k,h1,h2,h3,h4⟩,_⟩:=I.list l;exact KJ PySem.W.kitx_list I.kIn ⟨o,h1,h2⟩ htp e (fun z=>nomatch z) fin
 | tuple ds =>
  obtain ⟨a,xs,rfl,l,z,rs⟩:=vn hv;cases (show u=Value.ref a from r1);obtain ⟨its,rv,⟨o,h1,h2,k,h4⟩,_⟩:=I.tuple l;exact KJ PySem.W.kitx_tuple I.kIn ⟨o,h1,h2⟩ htp e (fun z=>nomatch z) fin
 | dict ds =>
  obtain ⟨a,rfl,ep,xs,ea,_⟩:=hv;cases (show u=Value.ref a from r1);obtain ⟨_,_,_,o,es,h1,h2,_⟩:=(show b6 X.prog X.w H s.heap a (.dD ep xs) from I.hok a _ ea);exact KJ PySem.W.kitx_dict I.kIn ⟨o,h1,h2.1⟩ htp e (fun z=>nomatch z) fin
theorem Fd {X:Cx} {e:Expr} {te:TE} {x1} {p p2 p3 pos pos2:Pos} (hg:Gl X "isinstance") (hm:X.mg "isinstance" = none) (ha:JE X e te) (hs:PySem.W.isStarred e=false)
  (hb:JE X (.Name (Str.ofString "list") p2) (tC (.ty "list"))) (hb2:JE X (.Name (Str.ofString "tuple") p3) (tC (.ty "tuple"))) :
  JE X (.Call (.Name "isinstance" p) [e,.Tuple [.Name (Str.ofString "list") p2,.Name (Str.ofString "tuple") p3] x1 pos2] [] pos) (tCB (yj.r X.K) (ab te aB)):=by
 let te':TE:=fun σ H P=>∃ P0:VK,te σ H P0/\∀ x H1,P0 x H1->P x H1
 have ha':JE X e te':=⟨fun pins s σ H P I ⟨P0,h0,h1⟩=>JH (ha.h pins s σ H P0 I h0) (fun v s' ⟨x,H',I',r,q⟩=>⟨x,H',I',r,h1 _ _ q⟩) fun _ _ z=>z⟩;have htu:JE X (.Tuple [.Name (Str.ofString "list") p2,.Name (Str.ofString "tuple") p3] x1 pos2) (rm (ab (tC (.ty "list")) (ab (tC (.ty "tuple")) aB))):=vz (eA hb (eA hb2 aR rfl) rfl);have outer:=eB (p:=p) (pos:=pos) (zc (X:=X)) hg hm (by decide +kernel) (eA ha' (eA htu aR rfl) hs) hs rfl (by decide) rfl;refine ⟨?_⟩;intro pins s σ H Q I hT;refine outer.h pins s σ H Q I ⟨_,hT,fun x H1 z=>?_⟩;obtain ⟨F,d,hv,q⟩:=(show DF X.K x H1 Q from z);refine ⟨by decide,fun tp htp=>⟨x,tp,F,d,rfl,aF,?_,q _ (bf.nw _ htp)⟩⟩;have sm:bf H1 (upd H1 tp (.tup [.ty "list", .ty "tuple"])):=bf.nw _ htp;have pr:=Pr.of_same (F:=F) sm;cases d with
 | list ds=>obtain ⟨a,rfl,z2⟩:=hv;exact ⟨a,rfl,sD.pr z2 pr (fun _ z=>z) (sm a)⟩
 | dict ds=>obtain ⟨a,rfl,z2⟩:=hv;exact ⟨a,rfl,sD.pr z2 pr (fun _ z=>z) (sm a)⟩
 | none=>exact Dm.pr pr (fun _ z=>z) hv
 | bool b=>exact Dm.pr pr (fun _ z=>z) hv
 | int b=>exact Dm.pr pr (fun _ z=>z) hv
 | str b=>exact Dm.pr pr (fun _ z=>z) hv
 | tuple b=>exact Dm.pr pr (fun _ z=>z) hv
def GR:PyData->PyData->Option PR
 | .tuple ds,.tuple es=>DY (.tuple ds) (.tuple es)
 | x,y=>Bw (fun i j=>decide (i < j)) ltS x y
def DT:Prm:=Prm.two (fun K=>rOr (rOr (rI0 fun i j=>.bl (decide (i < j))) E8) (Fu K)) GR fun K F H x y u v pr Q hf hx hy hd q=>by
 unfold GR at hf;split at hf
 ·rename_i ds es;exact .inr (G0.ok K F H [.tuple ds,.tuple es] [u,v] pr Q hf ⟨u,_,rfl,hx,v,_,rfl,hy,rfl⟩ hd q)
 ·exact .inl (ltP.ok K F H [x,y] [u,v] pr Q hf ⟨u,_,rfl,hx,v,_,rfl,hy,rfl⟩ hd q)
theorem zt {X:Cx} (hu:X.A.units < cLine):OpR X (compareOp .Lt) (fun x y=>DT.r X.K [x,y]):=orR jU (yf hu)
theorem rh {P:Program} {w:World} {d:Addr} (hd:(d==sysModules)=false) :
  MeetsIn P w (Builtin.«dict.__len__» ⟨[.ref d],[]⟩) (fun _ R s=>∃ (o:Obj) (es:Array DictEntry) (ep:Nat),s.heap.get? d=some o/\o.ExactDict/\o.data=.dict es ep/\R (.ok (.ret (.int es.size s.toks))) { s with toks:=s.toks+1 }) :=
 .of_wp fun A R s ⟨o,es,ep,ho,hc,hdat,h⟩=>by
  show wpAny _ _ (dictSize d>>=_) _ _ s;unfold dictSize;refine IH (IH (KQ ho hdat (IQ ?_)));show wpAny _ _ (Builtin.Dict.pendingCount d>>=_) _ _ s;refine IH (wpAny_pendingCount_other hd ?_);refine wpAny_ret_mkInt ?_;rw [Nat.add_zero];exact h
theorem qr {P:Program} {w:World} {A:Around} {E:Value->Shared->Prop} {s:Shared} {d:Addr} {o:Obj} {es:Array DictEntry} {ep:Nat} {Q:Value->Shared->Prop} (hd:(d==sysModules)=false) (ho:s.heap.get? d=some o) (hc:o.ExactDict) (hdat:o.data=.dict es ep) (hfit:(es.size:Int) < 2 ^ 63)
  (h:Q (.int es.size (s.toks+1)) { s with toks:=s.toks+1+1 }):wpAny (model P w) A (call (.builtin "len") [.ref d]) Q E s:=by
 refine Calls.call_function_entry kind_len plain_len entry_len (args_len1 _) ?_;have ty:s.TypeIs (.ref d) "dict" := ⟨o,ho,hc.1⟩;unfold Builtin.«len»
 refine IH (m:=oneArg "len" _) (IQ ?_)
 refine IH (m:=callSpecial? (.ref d) (Str.ofString "__len__")) (Kq (name:=Str.ofString "__len__") ty F.slot_dict_len
  (call_meetsIn F.slot_dict_len ty F.entry_dict_len (F.args_dict_len_1 _) (rh hd) ⟨o,es,ep,ho,hc,hdat,?_⟩))
 show wpAny _ _ _ _ _ { s with toks:=s.toks+1 };refine IH (Ka (IQ ?_));refine IH (wpAny_letGo ?_);show wpAny _ _ (if ((es.size:Nat):Int) < 0 then _ else _) _ _ _;rw [IV (by omega)];show wpAny _ _ (if ((es.size:Nat):Int)>=2 ^ 63 then _ else _) _ _ _;rw [IV (by omega)];exact IH (wpAny_mkInt (IQ ⟨_,rfl,h⟩))
def BQ (K:Fg):V->Hp->VK->Prop:=fun x H Q=>∃ a ep xs,x=.ref a/\H a=some (.dD ep xs)/\Q (.int xs.length) H
def zr:Prm:=Prm.one BQ (fun d=>match d with | .dict kvs=>some (.dat (.int kvs.length)) | _=>none) fun K F H x u pr Q hf hx hd q=>by
 split at hf
 ·cases hf;obtain ⟨a,rfl,ep,xs,ea,z,dp⟩:=hx;exact ⟨a,ep,xs,rfl,ea,q _ H (bf.rf H) (by rw [dp.dZ];rfl)⟩
 ·cases hf
theorem vD {X:Cx}:bM X (.builtin "len") (zr.r X.K):=by
 intro pins s σ H xs us Q I rv q
 match xs,q with
 | [x],q =>
  obtain ⟨a,ep,ys,rfl,ea,q⟩:=(show BQ X.K x H Q from q);cases rv with
  | cons r0 r1 =>
  cases r1;have r0:_=Value.ref a:=r0;subst r0;obtain ⟨z,hd,nd,o,es,g1,g2,g3,g4⟩:=(show b6 X.prog X.w H s.heap a (.dD ep ys) from I.hok _ _ ea);have hsz:es.size=ys.length:=by rw [Lc g4];simp
  refine qr hd g1 g2 g3 (by rw [hsz];rw [Kb] at z;omega) ?_;rw [hsz];exact ⟨.int _,H,I.tok _,⟨_,rfl⟩,q⟩
end L2
end
section
namespace K06
open PySem PySem.Spec PyProof.Rows L2
def top (i:Nat):Stmt:=PySem.Challenge.pw_webshapes_k06_webs_made.main.body.getD i (.Pass ⟨0,0,0,0⟩)
abbrev aj:Stmt:=top 6
abbrev aL:Stmt:=top 7
abbrev aC:Stmt:=top 8
abbrev az:Stmt:=top 9
abbrev aO:Stmt:=top 10
abbrev aK:Stmt:=top 11
abbrev aP:Stmt:=top 12
abbrev aD:Stmt:=top 13
abbrev aN:Stmt:=top 15
abbrev aE:Stmt:=top 16
abbrev ag:Stmt:=top 17
abbrev aw:Stmt:=top 20
abbrev aV:Stmt:=top 21
abbrev cj:Stmt:=top 23
abbrev bD:Stmt:=top 24
abbrev bC:Stmt:=top 25
abbrev bg:Stmt:=top 26
abbrev bA:Stmt:=top 27
abbrev bj:Stmt:=top 28
abbrev ao:Stmt:=top 29
abbrev bz:Stmt:=top 30
abbrev aq:Stmt:=top 31
abbrev aU:Stmt:=top 32
abbrev bo:Stmt:=top 33
abbrev bV:Stmt:=top 34
structure Adr where
 bQ:Addr
 dB:FuncData
 eG:Addr
 jv:FuncData
 dg:Addr
 gX:FuncData
 cF:Addr
 fE:FuncData
 e7:Addr
 jO:FuncData
 fb:Addr
 jV:FuncData
 eT:Addr
 jy:FuncData
 de:Addr
 gQ:FuncData
 eH:Addr
 jo:FuncData
 dh:Addr
 g7:FuncData
 bq:Addr
 cB:FuncData
 cH:Addr
 fv:FuncData
 gq:Addr
 lH:FuncData
 uE:Addr
 zm:FuncData
 mh:Addr
 uI:FuncData
 nj:Addr
 sC:FuncData
 jR:Addr
 oo:FuncData
 mF:Addr
 r9:FuncData
 ji:Addr
 oB:FuncData
 cq:Addr
 eR:FuncData
 ny:Addr
 tG:FuncData
 bW:Addr
 dH:FuncData
 fQ:Addr
 lM:FuncData
 jK:Addr
 oY:FuncData
 m4:Addr
 oJ:FuncData
 g9:Tok
 mC:Tok
 j8:Tok
structure Txt (K:Fg) (mg:Str->Option Value) (t:Adr):Prop where
 dt:Fun K "are_letters" "are_letters" aj t.bQ t.dB
 gz:Binds K t.dB ["thing", "fewest"] []
 fW:mg "are_letters" = some (.ref t.bQ)
 gm:Fun K "is_name" "is_name" aL t.eG t.jv
 jJ:Binds K t.jv ["thing"] []
 jP:mg "is_name" = some (.ref t.eG)
 km:Fun K "is_whole" "is_whole" aC t.dg t.gX
 qV:Binds K t.gX ["thing"] []
 qP:mg "is_whole" = some (.ref t.dg)
 jm:Fun K "is_number" "is_number" az t.cF t.fE
 oI:Binds K t.fE ["thing"] []
 nV:mg "is_number" = some (.ref t.cF)
 mQ:Fun K "is_said" "is_said" aO t.e7 t.jO
 tJ:Binds K t.jO ["thing"] []
 u9:mg "is_said" = some (.ref t.e7)
 md:Fun K "is_node" "is_node" aK t.fb t.jV
 tT:Binds K t.jV ["thing"] []
 uP:mg "is_node" = some (.ref t.fb)
 nu:Fun K "kind_of" "kind_of" aP t.eT t.jy
 rQ:Binds K t.jy ["node"] []
 uN:mg "kind_of" = some (.ref t.eT)
 ki:Fun K "node_key" "node_key" aD t.de t.gQ
 q8:Binds K t.gQ ["node"] []
 qI:mg "node_key" = some (.ref t.de)
 mW:Fun K "is_fact" "is_fact" aN t.eH t.jo
 tL:Binds K t.jo ["thing"] []
 uA:mg "is_fact" = some (.ref t.eH)
 qG:Fun K "fact_key" "fact_key" aE t.dh t.g7
 qx:Binds K t.g7 ["fact"] []
 qH:mg "fact_key" = some (.ref t.dh)
 dR:Fun K "facts_in_order" "facts_in_order" ag t.bq t.cB
 iJ:Binds K t.cB ["facts"] []
 iH:mg "facts_in_order" = some (.ref t.bq)
 iX:Fun K "are_facts" "are_facts" aw t.cH t.fv
 nY:Binds K t.fv ["things"] []
 nP:mg "are_facts" = some (.ref t.cH)
 fe:Fun K "web_of" "web_of" aV t.gq t.lH
 gu:Binds K t.lH ["facts"] []
 fZ:mg "web_of" = some (.ref t.gq)
 CJ:Fun K "_law_pen" "_law_pen" cj t.uE t.zm
 GN:Binds K t.zm ["_law_script"] []
 FC:mg "_law_pen" = some (.ref t.uE)
 bF:Fun K "_law_take" "_law_take" bD t.mh t.uI
 bJ:Binds K t.uI ["_law_pen_here", "_law_most"] []
 bK:mg "_law_take" = some (.ref t.mh)
 uS:Fun K "_law_word" "_law_word" bC t.nj t.sC
 xU:Binds K t.sC ["_law_pen_here", "_law_many"] []
 xh:mg "_law_word" = some (.ref t.nj)
 oq:Fun K "_law_words" "_law_words" bg t.jR t.oo
 uz:Binds K t.oo ["_law_pen_here", "_law_most"] []
 m_words:mg "_law_words" = some (.ref t.jR)
 x8:Fun K "_law_node" "_law_node" bA t.mF t.r9
 BM:Binds K t.r9 ["_law_pen_here", "_law_things"] []
 CD:mg "_law_node" = some (.ref t.mF)
 tu:Fun K "_law_facts" "_law_facts" bj t.ji t.oB
 yV:Binds K t.oB ["_law_pen_here"] []
 zG:mg "_law_facts" = some (.ref t.ji)
 ix:Fun K "_law_many_facts" "_law_many_facts" ao t.cq t.eR
 mR:Binds K t.eR ["_law_pen_here"] []
 mX:mg "_law_many_facts" = some (.ref t.cq)
 m8:Fun K "_law_sort" "_law_sort" bz t.ny t.tG
 p7:Binds K t.tG ["_law_node_here"] []
 pY:mg "_law_sort" = some (.ref t.ny)
 gb:Fun K "_law_node_before" "_law_node_before" aq t.bW t.dH
 lq:Binds K t.dH ["_law_one", "_law_other"] []
 lJ:mg "_law_node_before" = some (.ref t.bW)
 o4:Fun K "_law_before" "_law_before" aU t.fQ t.lM
 wc:Binds K t.lM ["_law_one", "_law_other"] []
 v3:mg "_law_before" = some (.ref t.fQ)
 oN:Fun K "_law_right" "_law_right" bo t.jK t.oY
 tV:Binds K t.oY ["_law_found", "_law_facts_here"] []
 ur:mg "_law_right" = some (.ref t.jK)
 Gn:Fun K "law" "law" bV t.m4 t.oJ
 Hv:Binds K t.oJ ["_law_script"] []
 D7:mg "law" = some (.ref t.m4)
 z_abs:mg "abs" = none
 z_all:mg "all" = none
 z_bool:mg "bool" = none
 z_int:mg "int" = none
 z_isinstance:mg "isinstance" = none
 z_len:mg "len" = none
 z_list:mg "list" = none
 z_range:mg "range" = none
 z_sorted:mg "sorted" = none
 z_str:mg "str" = none
 z_tuple:mg "tuple" = none
 g_GREATEST_NUMBER:mg "GREATEST_NUMBER" = some (Value.int 999999999999999999999999999999 t.g9)
 g_MOST_FACTS:mg "MOST_FACTS" = some (Value.int 400 t.mC)
 g_MOST_LETTERS:mg "MOST_LETTERS" = some (Value.int 8 t.j8)
theorem j3:aH ["thing", "fewest"] ["thing", "fewest"] (aa aj):=⟨rfl,rfl,rfl,by decide +kernel,rfl,by decide +kernel,by decide +kernel⟩
theorem qM:aH ["thing"] ["thing"] (aa aL):=⟨rfl,rfl,rfl,by decide +kernel,rfl,by decide +kernel,by decide +kernel⟩
theorem nJ:aH ["thing"] ["thing"] (aa aC):=⟨rfl,rfl,rfl,by decide +kernel,rfl,by decide +kernel,by decide +kernel⟩
theorem mN:aH ["thing"] ["thing"] (aa az):=⟨rfl,rfl,rfl,by decide +kernel,rfl,by decide +kernel,by decide +kernel⟩
theorem qv:aH ["thing"] ["thing"] (aa aO):=⟨rfl,rfl,rfl,by decide +kernel,rfl,by decide +kernel,by decide +kernel⟩
theorem qB:aH ["thing"] ["thing"] (aa aK):=⟨rfl,rfl,rfl,by decide +kernel,rfl,by decide +kernel,by decide +kernel⟩
theorem qT:aH ["node"] ["node"] (aa aP):=⟨rfl,rfl,rfl,by decide +kernel,rfl,by decide +kernel,by decide +kernel⟩
theorem jD:aH ["node", "kind"] ["node"] (aa aD):=⟨rfl,rfl,rfl,by decide +kernel,rfl,by decide +kernel,by decide +kernel⟩
theorem rg:aH ["thing"] ["thing"] (aa aN):=⟨rfl,rfl,rfl,by decide +kernel,rfl,by decide +kernel,by decide +kernel⟩
theorem nR:aH ["fact"] ["fact"] (aa aE):=⟨rfl,rfl,rfl,by decide +kernel,rfl,by decide +kernel,by decide +kernel⟩
theorem cg:aH ["facts", "once", "fact"] ["facts"] (aa ag):=⟨rfl,rfl,rfl,by decide +kernel,rfl,by decide +kernel,by decide +kernel⟩
theorem mZ:aH ["things"] ["things"] (aa aw):=⟨rfl,rfl,rfl,by decide +kernel,rfl,by decide +kernel,by decide +kernel⟩
theorem my:aH ["facts", "web"] ["facts"] (aa aV):=⟨rfl,rfl,rfl,by decide +kernel,rfl,by decide +kernel,by decide +kernel⟩
theorem Ba:aH ["_law_script"] ["_law_script"] (aa cj):=⟨rfl,rfl,rfl,by decide +kernel,rfl,by decide +kernel,by decide +kernel⟩
theorem d7:aH ["_law_pen_here", "_law_most", "_law_at", "_law_cell", "_law_n", "_law_found"] ["_law_pen_here", "_law_most"] (aa bD):=⟨rfl,rfl,rfl,by decide +kernel,rfl,by decide +kernel,by decide +kernel⟩
theorem oQ:aH ["_law_pen_here", "_law_many", "_law_word_here"] ["_law_pen_here", "_law_many"] (aa bC):=⟨rfl,rfl,rfl,by decide +kernel,rfl,by decide +kernel,by decide +kernel⟩
theorem iS:aH ["_law_pen_here", "_law_most", "_law_words_here", "_law_k", "_law_word_here"] ["_law_pen_here", "_law_most"] (aa bg):=⟨rfl,rfl,rfl,by decide +kernel,rfl,by decide +kernel,by decide +kernel⟩
theorem tM:aH ["_law_pen_here", "_law_things", "_law_way"] ["_law_pen_here", "_law_things"] (aa bA):=⟨rfl,rfl,rfl,by decide +kernel,rfl,by decide +kernel,by decide +kernel⟩
theorem dJ:aH ["_law_pen_here", "_law_things", "_law_bonds", "_law_facts_here", "_law_k", "_law_fact"] ["_law_pen_here"] (aa bj):=⟨rfl,rfl,rfl,by decide +kernel,rfl,by decide +kernel,by decide +kernel⟩
theorem bZ:aH ["_law_pen_here", "_law_letters", "_law_many", "_law_turn", "_law_ways"] ["_law_pen_here"] (aa ao):=⟨rfl,rfl,rfl,by decide +kernel,rfl,by decide +kernel,by decide +kernel⟩
theorem yG:aH ["_law_node_here"] ["_law_node_here"] (aa bz):=⟨rfl,rfl,rfl,by decide +kernel,rfl,by decide +kernel,by decide +kernel⟩
theorem j9:aH ["_law_one", "_law_other"] ["_law_one", "_law_other"] (aa aq):=⟨rfl,rfl,rfl,by decide +kernel,rfl,by decide +kernel,by decide +kernel⟩
theorem u6:aH ["_law_one", "_law_other"] ["_law_one", "_law_other"] (aa aU):=⟨rfl,rfl,rfl,by decide +kernel,rfl,by decide +kernel,by decide +kernel⟩
theorem iU:aH ["_law_found", "_law_facts_here", "_law_known", "_law_fact", "_law_k"] ["_law_found", "_law_facts_here"] (aa bo):=⟨rfl,rfl,rfl,by decide +kernel,rfl,by decide +kernel,by decide +kernel⟩
theorem jS:aH ["_law_script", "_law_pen_here", "_law_facts_here", "_law_handed", "_law_web"] ["_law_script"] (aa bV):=⟨rfl,rfl,rfl,by decide +kernel,rfl,by decide +kernel,by decide +kernel⟩
def gds:List PyData:=[]
def gav (t:Adr):Nat->V:=fun g=>([]:List V)[g]?.getD .non
theorem cA {K:Fg} {mg:Str->Option Value} {t:Adr} (T:Txt K mg t):∀ g d,gds[g]?=some d->∀ F H,Dm K F H d (gav t g):=by
 intro g d h F H;cases h
def cU:XS :=
 (.seq (.ifs (.or (.not (.tst (.prm (iD "str") (.cons (.var 0) .nil)))) (.not (.tst (.chn leP leP (.var 1) (.prm dZ (.cons (.var 0) .nil)) (.cst (.i 8)))))) (.ret (.cst (.b false))) .skip)
  (.ret (.prm Ac (.cons (.cmp [] (.str (.var 0)) .yes (.chn leP leP (.cst (.s "a" (by decide +kernel) (ak _))) (.var 0) (.cst (.s "z" (by decide +kernel) (ak _))))) .nil))))
def cn:Fn:=gc gds [.dat,.dat] 2 cU
def cR (K:Fg):Sp:=fo cn K
def g8:XS :=
 (.ret (.call cn (.cons (.var 0) (.cons (.cst (.i 1)) .nil))))
def dq:Fn:=gc gds [.dat] 1 g8
def fh (K:Fg):Sp:=fo dq K
def fI:XS :=
 (.ret (.qp (.prm (iD "int") (.cons (.var 0) .nil)) (.Ah (.prm (iD "bool") (.cons (.var 0) .nil)))))
def fD:Fn:=gc gds [.dat] 1 fI
def jQ (K:Fg):Sp:=fo fD K
def eO:XS :=
 (.ret (.qp (.call fD (.cons (.var 0) .nil)) (.prm leP (.cons (.prm yM (.cons (.var 0) .nil)) (.cons (.cst (.i 999999999999999999999999999999)) .nil)))))
def eK:Fn:=gc gds [.dat] 1 eO
def iq (K:Fg):Sp:=fo eK K
def gF:XS :=
 (.ret (.qp (.prm (iD "tuple") (.cons (.var 0) .nil)) (.qp (.prm eqP (.cons (.prm dZ (.cons (.var 0) .nil)) (.cons (.cst (.i 1)) .nil))) (.call cn (.cons (.prm ixP (.cons (.var 0) (.cons (.cst (.i 0)) .nil))) (.cons (.cst (.i 0)) .nil))))))
def gM:Fn:=gc gds [.dat] 1 gF
def kH (K:Fg):Sp:=fo gM K
def gH:XS :=
 (.ret (.orv (.call dq (.cons (.var 0) .nil)) (.orv (.call eK (.cons (.var 0) .nil)) (.call gM (.cons (.var 0) .nil)))))
def gU:Fn:=gc gds [.dat] 1 gH
def kq (K:Fg):Sp:=fo gU K
def hZ:XS :=
 (.seq (.ifs (.tst (.prm (iD "str") (.cons (.var 0) .nil))) (.ret (.cst (.s "thing" (by decide +kernel) (ak _)))) .skip)
  (.seq (.ifs (.tst (.prm (iD "tuple") (.cons (.var 0) .nil))) (.ret (.cst (.s "said" (by decide +kernel) (ak _)))) .skip)
  (.ret (.cst (.s "number" (by decide +kernel) (ak _))))))
def ij:Fn:=gc gds [.dat] 1 hZ
def kC (K:Fg):Sp:=fo ij K
def fN:XS :=
 (.seq (.fO 1 (.call ij (.cons (.var 0) .nil)))
  (.seq (.ifs (.tst (.prm eqP (.cons (.var 1) (.cons (.cst (.s "number" (by decide +kernel) (ak _))) .nil)))) (.ret (.tup (.cons (.cst (.i 0)) (.cons (.var 0) (.cons (.cst (.s "" (by decide +kernel) (ak _))) .nil))))) .skip)
  (.seq (.ifs (.tst (.prm eqP (.cons (.var 1) (.cons (.cst (.s "said" (by decide +kernel) (ak _))) .nil)))) (.ret (.tup (.cons (.cst (.i 1)) (.cons (.cst (.i 0)) (.cons (.prm ixP (.cons (.var 0) (.cons (.cst (.i 0)) .nil))) .nil))))) .skip)
  (.ret (.tup (.cons (.cst (.i 2)) (.cons (.cst (.i 0)) (.cons (.var 0) .nil))))))))
def fJ:Fn:=gc gds [.dat] 2 fN
def jA (K:Fg):Sp:=fo fJ K
def gG:XS :=
 (.seq (.ifs (.or (.not (.tst (.prm (iD "tuple") (.cons (.var 0) .nil)))) (.tst (.prm neP (.cons (.prm dZ (.cons (.var 0) .nil)) (.cons (.cst (.i 3)) .nil))))) (.ret (.cst (.b false))) .skip)
  (.ret (.qp (.call dq (.cons (.prm ixP (.cons (.var 0) (.cons (.cst (.i 0)) .nil))) .nil)) (.qp (.call dq (.cons (.prm ixP (.cons (.var 0) (.cons (.cst (.i 1)) .nil))) .nil)) (.call gU (.cons (.prm ixP (.cons (.var 0) (.cons (.cst (.i 2)) .nil))) .nil))))))
def gT:Fn:=gc gds [.dat] 1 gG
def ku (K:Fg):Sp:=fo gT K
def fF:XS :=
 (.ret (.tup (.cons (.prm ixP (.cons (.var 0) (.cons (.cst (.i 0)) .nil))) (.cons (.prm ixP (.cons (.var 0) (.cons (.cst (.i 1)) .nil))) (.cons (.call fJ (.cons (.prm ixP (.cons (.var 0) (.cons (.cst (.i 2)) .nil))) .nil)) .nil)))))
def cc:Fn:=gc gds [.dat] 1 fF
def nI (K:Fg):Sp:=fo cc K
def bB:XS :=
 (.seq (.ve 1 (.prm A7 .nil))
  (.seq (.fr 2 (.sq (.var 0)) (.sto nM 1 (.var 2) (.cst (.b true))))
  (.ret (.prm (Sg.mI fyS cc rfl) (.cons (.var 1) .nil)))))
def bx:Fn:=gc gds [.bor] 3 bB
def cY (K:Fg):Sp:=fo bx K
def cM:XS :=
 (.ret (.prm Ac (.cons (.cmp [] (.sq (.var 0)) .yes (.call gT (.cons (.var 0) .nil))) .nil)))
def cN:Fn:=gc gds [.bor] 1 cM
def iu (K:Fg):Sp:=fo cN K
def gi:XS :=
 (.seq (.ifs (.or (.not (.tst (.prm yj (.cons (.var 0) .nil)))) (.not (.tst (.call cN (.cons (.var 0) .nil))))) .nev .skip)
  (.seq (.fO 1 (.prm ng (.cons (.call bx (.cons (.var 0) .nil)) .nil)))
  (.seq (.ifs (.tst (.prm gtP (.cons (.prm dZ (.cons (.var 1) .nil)) (.cons (.cst (.i 400)) .nil)))) .nev .skip)
  (.ret (.var 1)))))
def cv:Fn:=gc gds [.bor] 2 gi
def cZ (K:Fg):Sp:=fo cv K
def xj:XS :=
 (.ret (.dsp (.cons (.cst (.s "script" (by decide +kernel) (ak _))) (.var 0) (.cons (.cst (.s "at" (by decide +kernel) (ak _))) (.cst (.i 0)) (.cons (.cst (.s "left" (by decide +kernel) (ak _))) (.cst (.i 0)) .nil)))))
def sv:Fn:=gc gds [.dat] 1 xj
def xJ (K:Fg):Sp:=fo sv K
def ou:XS :=
 (.seq (.fO 2 (.prm eD (.cons (.var 0) (.cons (.cst (.s "at" (by decide +kernel) (ak _))) .nil))))
  (.seq (.ifs (.tst (.prm eqP (.cons (.prm eD (.cons (.var 0) (.cons (.cst (.s "left" (by decide +kernel) (ak _))) .nil))) (.cons (.cst (.i 0)) .nil)))) (.seq (.sto nM 0 (.cst (.s "at" (by decide +kernel) (ak _))) (.prm il (.cons (.var 2) (.cons (.cst (.i 1)) .nil))))
  (.seq (.fO 3 (.cst (.i 1321)))
  (.seq (.ifs (.tst (.prm gtP (.cons (.prm dZ (.cons (.prm eD (.cons (.var 0) (.cons (.cst (.s "script" (by decide +kernel) (ak _))) .nil))) .nil)) (.cons (.cst (.i 0)) .nil)))) (.fO 3 (.prm ixP (.cons (.prm eD (.cons (.var 0) (.cons (.cst (.s "script" (by decide +kernel) (ak _))) .nil))) (.cons (.prm lg (.cons (.var 2) (.cons (.prm dZ (.cons (.prm eD (.cons (.var 0) (.cons (.cst (.s "script" (by decide +kernel) (ak _))) .nil))) .nil)) .nil))) .nil)))) .skip)
  (.seq (.ifs (.or (.tst (.prm geP (.cons (.var 2) (.cons (.prm dZ (.cons (.prm eD (.cons (.var 0) (.cons (.cst (.s "script" (by decide +kernel) (ak _))) .nil))) .nil)) .nil)))) (.tst (.prm ltP (.cons (.prm yM (.cons (.var 3) .nil)) (.cons (.prm AW (.cons (.cst (.i 10)) (.cons (.cst (.i 18)) .nil))) .nil))))) (.seq (.fO 3 (.prm il (.cons (.prm il (.cons (.prm lg (.cons (.var 3) (.cons (.cst (.i 2147483497)) .nil))) (.cons (.prm lT (.cons (.cst (.i 86028157)) (.cons (.var 2) .nil))) .nil))) (.cons (.cst (.i 613)) .nil))))
  (.seq (.fO 4 (.prm lg (.cons (.prm lT (.cons (.var 3) (.cons (.cst (.i 48271)) .nil))) (.cons (.cst (.i 2147483647)) .nil))))
  (.seq (.fO 4 (.prm lg (.cons (.prm il (.cons (.prm il (.cons (.prm lT (.cons (.var 4) (.cons (.var 4) .nil))) (.cons (.prm lT (.cons (.cst (.i 4001)) (.cons (.var 4) .nil))) .nil))) (.cons (.prm lT (.cons (.cst (.i 67867979)) (.cons (.var 2) .nil))) .nil))) (.cons (.cst (.i 2147483579)) .nil))))
  (.ret (.prm lg (.cons (.prm n4 (.cons (.prm lg (.cons (.prm lT (.cons (.var 4) (.cons (.cst (.i 39373)) .nil))) (.cons (.cst (.i 2147483587)) .nil))) (.cons (.cst (.i 9)) .nil))) (.cons (.var 1) .nil))))))) .skip)
  (.sto nM 0 (.cst (.s "left" (by decide +kernel) (ak _))) (.prm yM (.cons (.var 3) .nil))))))) .skip)
  (.seq (.fO 5 (.prm lg (.cons (.prm eD (.cons (.var 0) (.cons (.cst (.s "left" (by decide +kernel) (ak _))) .nil))) (.cons (.var 1) .nil))))
  (.seq (.sto nM 0 (.cst (.s "left" (by decide +kernel) (ak _))) (.prm n4 (.cons (.prm eD (.cons (.var 0) (.cons (.cst (.s "left" (by decide +kernel) (ak _))) .nil))) (.cons (.var 1) .nil))))
  (.ret (.var 5))))))
def aT:Fn:=gc gds [.ino,.dat] 6 ou
def aZ (K:Fg):Sp:=fo aT K
def oT:XS :=
 (.seq (.fO 2 (.prm ixP (.cons (.lst (.cons (.cst (.s "" (by decide +kernel) (ak _))) (.cons (.cst (.s "" (by decide +kernel) (ak _))) (.cons (.cst (.s "" (by decide +kernel) (ak _))) (.cons (.prm ixP (.cons (.lst (.cons (.cst (.s "any" (by decide +kernel) (ak _))) (.cons (.cst (.s "keeps" (by decide +kernel) (ak _))) (.cons (.cst (.s "least" (by decide +kernel) (ak _))) (.cons (.cst (.s "is" (by decide +kernel) (ak _))) (.cons (.cst (.s "all" (by decide +kernel) (ak _))) (.cons (.cst (.s "many" (by decide +kernel) (ak _))) .nil))))))) (.cons (.call aT (.cons (.var 0) (.cons (.cst (.i 6)) .nil))) .nil))) .nil))))) (.cons (.call aT (.cons (.var 0) (.cons (.cst (.i 4)) .nil))) .nil))))
  (.seq (.wh 100 (.tst (.prm ltP (.cons (.prm dZ (.cons (.var 2) .nil)) (.cons (.var 1) .nil)))) (.fO 2 (.prm il (.cons (.var 2) (.cons (.prm ixP (.cons (.cst (.s "abcdefghijklmnopqrstuvwxyz" (by decide +kernel) (ak _))) (.cons (.call aT (.cons (.var 0) (.cons (.cst (.i 26)) .nil))) .nil))) .nil)))))
  (.ret (.prm HP (.cons (.var 2) (.cons (.var 1) .nil))))))
def lr:Fn:=gc gds [.ino,.dat] 3 oT
def n6 (K:Fg):Sp:=fo lr K
def lp:XS :=
 (.seq (.ve 2 (.lst .nil))
  (.seq (.fr 3 (.rng1 (.cons (.prm il (.cons (.cst (.i 1)) (.cons (.call aT (.cons (.var 0) (.cons (.var 1) .nil))) .nil))) .nil)) (.seq (.fO 4 (.call lr (.cons (.var 0) (.cons (.prm il (.cons (.cst (.i 1)) (.cons (.call aT (.cons (.var 0) (.cons (.cst (.i 8)) .nil))) .nil))) .nil))))
  (.ifs (.tst (.prm pI (.cons (.var 4) (.cons (.var 2) .nil)))) (.drop (.mtr Ak 2 (.cons (.var 4) .nil))) .skip)))
  (.ret (.tke 2))))
def iQ:Fn:=gc gds [.ino,.dat] 5 lp
def ly (K:Fg):Sp:=fo iQ K
def oW:XS :=
 (.seq (.fO 2 (.call aT (.cons (.var 0) (.cons (.cst (.i 6)) .nil))))
  (.seq (.ifs (.tst (.prm ltP (.cons (.var 2) (.cons (.cst (.i 3)) .nil)))) (.ret (.prm ixP (.cons (.var 1) (.cons (.call aT (.cons (.var 0) (.cons (.prm dZ (.cons (.var 1) .nil)) .nil))) .nil)))) .skip)
  (.seq (.ifs (.tst (.prm eqP (.cons (.var 2) (.cons (.cst (.i 3)) .nil)))) (.ret (.prm wN (.cons (.call aT (.cons (.var 0) (.cons (.cst (.i 9)) .nil))) (.cons (.cst (.i 4)) .nil)))) .skip)
  (.seq (.ifs (.tst (.prm eqP (.cons (.var 2) (.cons (.cst (.i 4)) .nil)))) (.ret (.prm lT (.cons (.prm ixP (.cons (.lst (.cons (.cst (.i 1)) (.cons (.prm Hg (.cons (.cst (.i 1)) .nil)) .nil))) (.cons (.call aT (.cons (.var 0) (.cons (.cst (.i 2)) .nil))) .nil))) (.cons (.prm wN (.cons (.prm wN (.cons (.prm AW (.cons (.cst (.i 10)) (.cons (.cst (.i 30)) .nil))) (.cons (.cst (.i 1)) .nil))) (.cons (.call aT (.cons (.var 0) (.cons (.cst (.i 3)) .nil))) .nil))) .nil)))) .skip)
  (.ret (.tup (.cons (.call lr (.cons (.var 0) (.cons (.call aT (.cons (.var 0) (.cons (.cst (.i 9)) .nil))) .nil))) .nil)))))))
def nH:Fn:=gc gds [.ino,.dat] 3 oW
def sR (K:Fg):Sp:=fo nH K
def kM:XS :=
 (.seq (.fO 1 (.call iQ (.cons (.var 0) (.cons (.cst (.i 9)) .nil))))
  (.seq (.fO 2 (.call iQ (.cons (.var 0) (.cons (.cst (.i 5)) .nil))))
  (.seq (.ve 3 (.lst .nil))
  (.seq (.fr 4 (.rng1 (.cons (.call aT (.cons (.var 0) (.cons (.cst (.i 31)) .nil))) .nil)) (.seq (.fO 5 (.tup (.cons (.prm ixP (.cons (.var 1) (.cons (.call aT (.cons (.var 0) (.cons (.prm dZ (.cons (.var 1) .nil)) .nil))) .nil))) (.cons (.prm ixP (.cons (.var 2) (.cons (.call aT (.cons (.var 0) (.cons (.prm dZ (.cons (.var 2) .nil)) .nil))) .nil))) (.cons (.call nH (.cons (.var 0) (.cons (.var 1) .nil))) .nil)))))
  (.seq (.ifs (.and (.tst (.prm gtP (.cons (.prm dZ (.cons (.var 3) .nil)) (.cons (.cst (.i 0)) .nil)))) (.tst (.prm eqP (.cons (.call aT (.cons (.var 0) (.cons (.cst (.i 5)) .nil))) (.cons (.cst (.i 0)) .nil))))) (.fO 5 (.prm ixP (.cons (.var 3) (.cons (.call aT (.cons (.var 0) (.cons (.prm dZ (.cons (.var 3) .nil)) .nil))) .nil)))) .skip)
  (.drop (.mtr Ak 3 (.cons (.var 5) .nil))))))
  (.ret (.tke 3))))))
def lh:Fn:=gc gds [.ino] 6 kM
def qi (K:Fg):Sp:=fo lh K
def dQ:XS :=
 (.seq (.fO 1 (.cst (.s "abcdefghijklmnopqrst" (by decide +kernel) (ak _))))
  (.seq (.fO 2 (.prm il (.cons (.cst (.i 398)) (.cons (.call aT (.cons (.var 0) (.cons (.cst (.i 3)) .nil))) .nil))))
  (.seq (.fO 3 (.call aT (.cons (.var 0) (.cons (.cst (.i 400)) .nil))))
  (.seq (.fO 4 (.cmp [3] (.rng1 (.cons (.var 2) .nil)) .yes (.prm lg (.cons (.prm lT (.cons (.cst (.i 7)) (.cons (.prm il (.cons (.var 0) (.cons (.var 1) .nil))) .nil))) (.cons (.cst (.i 400)) .nil)))))
  (.ret (.cmp [1] (.lst (.var 4)) .yes (.tup (.cons (.prm il (.cons (.cst (.s "a" (by decide +kernel) (ak _))) (.cons (.prm ixP (.cons (.var 1) (.cons (.prm n4 (.cons (.var 0) (.cons (.cst (.i 20)) .nil))) .nil))) .nil))) (.cons (.cst (.s "b" (by decide +kernel) (ak _))) (.cons (.prm ixP (.cons (.var 1) (.cons (.prm lg (.cons (.var 0) (.cons (.cst (.i 20)) .nil))) .nil))) .nil))))))))))
def dG:Fn:=gc gds [.ino] 5 dQ
def fT (K:Fg):Sp:=fo dG K
def nL:XS :=
 (.seq (.ifs (.tst (.prm (iD "str") (.cons (.var 0) .nil))) (.ret (.cst (.i 2))) .skip)
  (.ret (.prm E3 (.cons (.prm (iD "tuple") (.cons (.var 0) .nil)) .nil))))
def gJ:Fn:=gc gds [.dat] 1 nL
def jt (K:Fg):Sp:=fo gJ K
def cP:XS :=
 (.seq (.ifs (.tst (.prm neP (.cons (.call gJ (.cons (.var 0) .nil)) (.cons (.call gJ (.cons (.var 1) .nil)) .nil)))) (.ret (.prm ltP (.cons (.call gJ (.cons (.var 0) .nil)) (.cons (.call gJ (.cons (.var 1) .nil)) .nil)))) .skip)
  (.ret (.prm DT (.cons (.var 0) (.cons (.var 1) .nil)))))
def cT:Fn:=gc gds [.dat,.dat] 2 cP
def fj (K:Fg):Sp:=fo cT K
def jj:XS :=
 (.seq (.ifs (.tst (.prm neP (.cons (.prm ixP (.cons (.var 0) (.cons (.cst (.i 0)) .nil))) (.cons (.prm ixP (.cons (.var 1) (.cons (.cst (.i 0)) .nil))) .nil)))) (.ret (.prm ltP (.cons (.prm ixP (.cons (.var 0) (.cons (.cst (.i 0)) .nil))) (.cons (.prm ixP (.cons (.var 1) (.cons (.cst (.i 0)) .nil))) .nil)))) .skip)
  (.seq (.ifs (.tst (.prm neP (.cons (.prm ixP (.cons (.var 0) (.cons (.cst (.i 1)) .nil))) (.cons (.prm ixP (.cons (.var 1) (.cons (.cst (.i 1)) .nil))) .nil)))) (.ret (.prm ltP (.cons (.prm ixP (.cons (.var 0) (.cons (.cst (.i 1)) .nil))) (.cons (.prm ixP (.cons (.var 1) (.cons (.cst (.i 1)) .nil))) .nil)))) .skip)
  (.ret (.call cT (.cons (.prm ixP (.cons (.var 0) (.cons (.cst (.i 2)) .nil))) (.cons (.prm ixP (.cons (.var 1) (.cons (.cst (.i 2)) .nil))) .nil))))))
def jg:Fn:=gc gds [.dat,.dat] 2 jj
def nB (K:Fg):Sp:=fo jg K
def lO:XS :=
 (.seq (.ve 2 (.prm A7 .nil))
  (.seq (.fr 3 (.lst (.var 1)) (.sto nM 2 (.var 3) (.cst (.b true))))
  (.seq (.ifs (.or (.not (.tst (.prm (iD "tuple") (.cons (.var 0) .nil)))) (.tst (.prm neP (.cons (.prm dZ (.cons (.var 0) .nil)) (.cons (.prm zr (.cons (.var 2) .nil)) .nil))))) (.ret (.cst (.b false))) .skip)
  (.seq (.fr 4 (.rng1 (.cons (.prm dZ (.cons (.var 0) .nil)) .nil)) (.seq (.ifs (.or (.not (.tst (.prm (iD "tuple") (.cons (.prm ixP (.cons (.var 0) (.cons (.var 4) .nil))) .nil)))) (.or (.tst (.prm (Dr true) (.cons (.prm ixP (.cons (.var 0) (.cons (.var 4) .nil))) (.cons (.var 2) .nil)))) (.tst (.prm (iD "bool") (.cons (.prm ixP (.cons (.prm ixP (.cons (.var 0) (.cons (.var 4) .nil))) (.cons (.cst (.i 2)) .nil))) .nil))))) (.ret (.cst (.b false))) .skip)
  (.ifs (.and (.tst (.prm gtP (.cons (.var 4) (.cons (.cst (.i 0)) .nil)))) (.not (.tst (.call jg (.cons (.prm ixP (.cons (.var 0) (.cons (.prm wN (.cons (.var 4) (.cons (.cst (.i 1)) .nil))) .nil))) (.cons (.prm ixP (.cons (.var 0) (.cons (.var 4) .nil))) .nil)))))) (.ret (.cst (.b false))) .skip)))
  (.ret (.cst (.b true)))))))
def iW:Fn:=gc gds [.dat,.dat] 5 lO
def lD (K:Fg):Sp:=fo iW K
def sd:XS :=
 (.seq (.ve 1 (.call sv (.cons (.var 0) .nil)))
  (.seq (.fO 2 (.call lh (.cons (.var 1) .nil)))
  (.seq (.ifs (.tst (.prm eqP (.cons (.call aT (.cons (.var 1) (.cons (.cst (.i 8)) .nil))) (.cons (.cst (.i 0)) .nil)))) (.seq (.fO 2 (.call dG (.cons (.var 1) .nil)))
  (.fO 2 (.prm il (.cons (.var 2) (.cons (.cmp [2,1] (.rng1 (.cons (.call aT (.cons (.var 1) (.cons (.cst (.i 4)) .nil))) .nil)) .yes (.prm ixP (.cons (.var 1) (.cons (.call aT (.cons (.var 2) (.cons (.prm dZ (.cons (.var 1) .nil)) .nil))) .nil)))) .nil))))) .skip)
  (.seq (.ve 3 (.prm zN (.cons (.var 2) .nil)))
  (.seq (.fO 4 (.call cv (.cons (.var 3) .nil)))
  (.seq (.ifs (.or (.tst (.prm neP (.cons (.var 3) (.cons (.var 2) .nil)))) (.not (.tst (.call iW (.cons (.var 4) (.cons (.var 2) .nil)))))) (.ret (.cst (.b false))) .skip)
  (.seq (.drop (.mtr Hr 3 .nil))
  (.seq (.ifs (.or (.not (.tst (.call iW (.cons (.var 4) (.cons (.var 2) .nil))))) (.tst (.prm neP (.cons (.call cv (.cons (.var 3) .nil)) (.cons (.tup .nil) .nil))))) (.ret (.cst (.b false))) .skip)
  (.ret (.qp (.prm eqP (.cons (.call cv (.cons (.prm HQ (.cons (.var 2) (.cons (.prm Hg (.cons (.cst (.i 1)) .nil)) .nil))) .nil)) (.cons (.var 4) .nil))) (.qp (.prm eqP (.cons (.call cv (.cons (.prm ng (.cons (.var 2) .nil)) .nil)) (.cons (.var 4) .nil))) (.prm eqP (.cons (.call cv (.cons (.var 4) .nil)) (.cons (.var 4) .nil))))))))))))))
def xQ:Fn:=gc gds [.dat] 5 sd
def uH (K:Fg):Sp:=fo xQ K
abbrev bR (P:Program) (w:World) (K:Fg) (mg:Str->Option Value) (base:Heap) (t:Adr):=dU P w K mg base CX0 1 t.bQ t.dB ["thing", "fewest"] (cR K)
abbrev eU (P:Program) (w:World) (K:Fg) (mg:Str->Option Value) (base:Heap) (t:Adr):=dU P w K mg base CX0 2 t.eG t.jv ["thing"] (fh K)
abbrev hG (P:Program) (w:World) (K:Fg) (mg:Str->Option Value) (base:Heap) (t:Adr):=dU P w K mg base CX0 1 t.dg t.gX ["thing"] (jQ K)
abbrev fx (P:Program) (w:World) (K:Fg) (mg:Str->Option Value) (base:Heap) (t:Adr):=dU P w K mg base CX0 2 t.cF t.fE ["thing"] (iq K)
abbrev jH (P:Program) (w:World) (K:Fg) (mg:Str->Option Value) (base:Heap) (t:Adr):=dU P w K mg base CX0 2 t.e7 t.jO ["thing"] (kH K)
abbrev jl (P:Program) (w:World) (K:Fg) (mg:Str->Option Value) (base:Heap) (t:Adr):=dU P w K mg base CX0 3 t.fb t.jV ["thing"] (kq K)
abbrev ju (P:Program) (w:World) (K:Fg) (mg:Str->Option Value) (base:Heap) (t:Adr):=dU P w K mg base CX0 1 t.eT t.jy ["node"] (kC K)
abbrev gW (P:Program) (w:World) (K:Fg) (mg:Str->Option Value) (base:Heap) (t:Adr):=dU P w K mg base CX0 2 t.de t.gQ ["node"] (jA K)
abbrev jC (P:Program) (w:World) (K:Fg) (mg:Str->Option Value) (base:Heap) (t:Adr):=dU P w K mg base CX0 4 t.eH t.jo ["thing"] (ku K)
abbrev gK (P:Program) (w:World) (K:Fg) (mg:Str->Option Value) (base:Heap) (t:Adr):=dU P w K mg base CX0 3 t.dh t.g7 ["fact"] (nI K)
abbrev cz (P:Program) (w:World) (K:Fg) (mg:Str->Option Value) (base:Heap) (t:Adr):=dU P w K mg base CX0 6 t.bq t.cB ["facts"] (cY K)
abbrev fB (P:Program) (w:World) (K:Fg) (mg:Str->Option Value) (base:Heap) (t:Adr):=dU P w K mg base CX0 5 t.cH t.fv ["things"] (iu K)
abbrev kW (P:Program) (w:World) (K:Fg) (mg:Str->Option Value) (base:Heap) (t:Adr):=dU P w K mg base CX0 7 t.gq t.lH ["facts"] (cZ K)
abbrev zC (P:Program) (w:World) (K:Fg) (mg:Str->Option Value) (base:Heap) (t:Adr):=dU P w K mg base CX0 1 t.uE t.zm ["_law_script"] (xJ K)
abbrev cV (P:Program) (w:World) (K:Fg) (mg:Str->Option Value) (base:Heap) (t:Adr):=dU P w K mg base CX0 1 t.mh t.uI ["_law_pen_here", "_law_most"] (aZ K)
abbrev mB (P:Program) (w:World) (K:Fg) (mg:Str->Option Value) (base:Heap) (t:Adr):=dU P w K mg base CX0 2 t.nj t.sC ["_law_pen_here", "_law_many"] (n6 K)
abbrev oD (P:Program) (w:World) (K:Fg) (mg:Str->Option Value) (base:Heap) (t:Adr):=dU P w K mg base CX0 3 t.jR t.oo ["_law_pen_here", "_law_most"] (ly K)
abbrev tE (P:Program) (w:World) (K:Fg) (mg:Str->Option Value) (base:Heap) (t:Adr):=dU P w K mg base CX0 3 t.mF t.r9 ["_law_pen_here", "_law_things"] (sR K)
abbrev oZ (P:Program) (w:World) (K:Fg) (mg:Str->Option Value) (base:Heap) (t:Adr):=dU P w K mg base CX0 4 t.ji t.oB ["_law_pen_here"] (qi K)
abbrev e8 (P:Program) (w:World) (K:Fg) (mg:Str->Option Value) (base:Heap) (t:Adr):=dU P w K mg base CX0 2 t.cq t.eR ["_law_pen_here"] (fT K)
abbrev tH (P:Program) (w:World) (K:Fg) (mg:Str->Option Value) (base:Heap) (t:Adr):=dU P w K mg base CX0 1 t.ny t.tG ["_law_node_here"] (jt K)
abbrev dM (P:Program) (w:World) (K:Fg) (mg:Str->Option Value) (base:Heap) (t:Adr):=dU P w K mg base CX0 2 t.bW t.dH ["_law_one", "_law_other"] (fj K)
abbrev kL (P:Program) (w:World) (K:Fg) (mg:Str->Option Value) (base:Heap) (t:Adr):=dU P w K mg base CX0 3 t.fQ t.lM ["_law_one", "_law_other"] (nB K)
abbrev ow (P:Program) (w:World) (K:Fg) (mg:Str->Option Value) (base:Heap) (t:Adr):=dU P w K mg base CX0 4 t.jK t.oY ["_law_found", "_law_facts_here"] (lD K)
abbrev Fh (P:Program) (w:World) (K:Fg) (mg:Str->Option Value) (base:Heap) (t:Adr):=dU P w K mg base CX0 8 t.m4 t.oJ ["_law_script"] (uH K)
section
variable {P:Program} {w:World} {K:Fg} {mg:Str->Option Value} {base:Heap} {t:Adr} {n:Nat} {cdv:Value} {A:Around} {outer:List Env} {s:Shared} {H:Hp} {E:XK}
def cO (K:Fg) (t:Adr):TS :=
 (bL (fX (tOr (ql (tB (tCB ((iD "str").r K) (ab (ah 0) aB)))) (ql (b5 (jk (fun x y=>leP.r K [x,y]) (fun x y=>leP.r K [x,y]) (ah 1) (tCB (dZ.r K) (ab (ah 0) aB)) (tC (.int 8)))))) (cI (tC (.bl false))) bT)
  (cI (tCB (Ac.r K) (ab (j4 [] (DR (ah 0)) xp (jk (fun x y=>leP.r K [x,y]) (fun x y=>leP.r K [x,y]) (tC (.str "a")) (ah 0) (tC (.str "z")))) aB))))
theorem jn (T:Txt K mg t) (hr:cp 0 (A.deeper (envOfC "are_letters" (aa aj) s.heap.objs.size t.bQ cdv))):JSs (fm CX0 P w K mg base ["thing", "fewest"] "are_letters" (aa aj) t.bQ cdv A outer s H E).nox (ae aj) (cO K t):=by
 unfold cO;refine bP ?_ ?_
 ·refine iA ?_ ?_ ?_
  ·exact (eW (vA (j7 (qJ (rp rfl T.z_isinstance (ai 0 rfl (Or.inl rfl) rfl rfl) rfl (pb (v:=.ty "str") rfl T.z_str (by decide +kernel) rfl (by decide) rfl)) (fun _=>rfl))) (m5 (j7 (ym nc nc (ai 1 rfl (Or.inl rfl) rfl rfl) (eB bI rfl T.z_len (by decide +kernel) (eA (ai 0 rfl (Or.inl rfl) rfl rfl) aR rfl) rfl rfl (by decide) rfl) (zU (v:=.int 8) rfl T.g_MOST_LETTERS ⟨_,rfl⟩ rfl) (by with_unfolding_all rfl))))))
  ·refine b7 ?_;exact (cK eBl)
  ·exact iz
 ·refine b7 ?_;exact (cK (eB (uJ rfl) rfl T.z_all (by decide +kernel) (eA (wU [] (eIS (ai 0 rfl (Or.inl rfl) rfl rfl)) eT0 (eC fun _ _ _ _=>(AF nc nc eM (ai 0 rfl (Or.inl rfl) rfl rfl) eM (by with_unfolding_all rfl))) rfl (bsc (sc:=aa aj) rfl (by decide +kernel)) (by decide +kernel) trivial (fun _=>rfl)) aR rfl) rfl rfl (by decide) rfl))
theorem j0 (T:Txt K mg t):bR P w K mg base t :=
 T.dt.okJ j3 (fun vs H Q E h=>aA h) (fun cdv A outer s H vs Q E hr h=>⟨_,jn T hr,by rw [show cO K t=rS K (gav t) cU from rfl];exact aS (N:=["thing", "fewest"]) (cA T) h (by decide)⟩)
def ig (K:Fg) (t:Adr):TS :=
 (cI (aG (cR K) [] E0 (ab (ah 0) (ab (tC (.int 1)) aB))))
theorem nS (T:Txt K mg t) (G_are_letters:bR P w K mg base t) (hr:cp 1 (A.deeper (envOfC "is_name" (aa aL) s.heap.objs.size t.eG cdv))):JSs (fm CX0 P w K mg base ["thing"] "is_name" (aa aL) t.eG cdv A outer s H E).nox (ae aL) (ig K t):=by
 unfold ig;refine b7 ?_;exact (cK (aJ G_are_letters (hr.mono (by omega)) rfl T.fW T.dt.kp T.gz .nil aI (eA (ai 0 rfl (Or.inl rfl) rfl rfl) (eA bb aR rfl) rfl) rfl rfl rfl))
theorem qy (T:Txt K mg t) (G_are_letters:bR P w K mg base t):eU P w K mg base t :=
 T.gm.okJ qM (fun vs H Q E h=>aA h) (fun cdv A outer s H vs Q E hr h=>⟨_,nS T G_are_letters hr,by rw [show ig K t=rS K (gav t) g8 from rfl];exact aS (N:=["thing"]) (cA T) h (by decide)⟩)
def fw (K:Fg) (t:Adr):TS :=
 (cI (jE (tCB ((iD "int").r K) (ab (ah 0) aB)) (wZ (tCB ((iD "bool").r K) (ab (ah 0) aB)))))
theorem mD (T:Txt K mg t) (hr:cp 0 (A.deeper (envOfC "is_whole" (aa aC) s.heap.objs.size t.dg cdv))):JSs (fm CX0 P w K mg base ["thing"] "is_whole" (aa aC) t.dg cdv A outer s H E).nox (ae aC) (fw K t):=by
 unfold fw;refine b7 ?_;exact (cK (xZ (rp rfl T.z_isinstance (ai 0 rfl (Or.inl rfl) rfl rfl) rfl (pb (v:=.ty "int") rfl T.z_int (by decide +kernel) rfl (by decide) rfl)) (Ae (Iw (rp rfl T.z_isinstance (ai 0 rfl (Or.inl rfl) rfl rfl) rfl (pb (v:=.ty "bool") rfl T.z_bool (by decide +kernel) rfl (by decide) rfl))))))
theorem nK (T:Txt K mg t):hG P w K mg base t :=
 T.km.okJ nJ (fun vs H Q E h=>aA h) (fun cdv A outer s H vs Q E hr h=>⟨_,mD T hr,by rw [show fw K t=rS K (gav t) fI from rfl];exact aS (N:=["thing"]) (cA T) h (by decide)⟩)
def ei (K:Fg) (t:Adr):TS :=
 (cI (jE (aG (jQ K) [] E0 (ab (ah 0) aB)) (tOp (fun x y=>leP.r K [x,y]) (tCB (yM.r K) (ab (ah 0) aB)) (tC (.int 999999999999999999999999999999)))))
theorem lP (T:Txt K mg t) (G_is_whole:hG P w K mg base t) (hr:cp 1 (A.deeper (envOfC "is_number" (aa az) s.heap.objs.size t.cF cdv))):JSs (fm CX0 P w K mg base ["thing"] "is_number" (aa az) t.cF cdv A outer s H E).nox (ae az) (ei K t):=by
 unfold ei;refine b7 ?_;exact (cK (xZ (aJ G_is_whole (hr.mono (by omega)) rfl T.qP T.km.kp T.qV .nil aI (eA (ai 0 rfl (Or.inl rfl) rfl rfl) aR rfl) rfl rfl rfl) (Ae (vK nc (eB nQ rfl T.z_abs (by decide +kernel) (eA (ai 0 rfl (Or.inl rfl) rfl rfl) aR rfl) rfl rfl (by decide) rfl) (zU (v:=.int 999999999999999999999999999999) rfl T.g_GREATEST_NUMBER ⟨_,rfl⟩ rfl) (aY _)))))
theorem nA (T:Txt K mg t) (G_is_whole:hG P w K mg base t):fx P w K mg base t :=
 T.jm.okJ mN (fun vs H Q E h=>aA h) (fun cdv A outer s H vs Q E hr h=>⟨_,lP T G_is_whole hr,by rw [show ei K t=rS K (gav t) eO from rfl];exact aS (N:=["thing"]) (cA T) h (by decide)⟩)
def hV (K:Fg) (t:Adr):TS :=
 (cI (jE (tCB ((iD "tuple").r K) (ab (ah 0) aB)) (jE (tOp (fun x y=>eqP.r K [x,y]) (tCB (dZ.r K) (ab (ah 0) aB)) (tC (.int 1))) (aG (cR K) [] E0 (ab (tOp (fun x y=>ixP.r K [x,y]) (ah 0) (tC (.int 0))) (ab (tC (.int 0)) aB))))))
theorem oO (T:Txt K mg t) (G_are_letters:bR P w K mg base t) (hr:cp 1 (A.deeper (envOfC "is_said" (aa aO) s.heap.objs.size t.e7 cdv))):JSs (fm CX0 P w K mg base ["thing"] "is_said" (aa aO) t.e7 cdv A outer s H E).nox (ae aO) (hV K t):=by
 unfold hV;refine b7 ?_;exact (cK (xZ (rp rfl T.z_isinstance (ai 0 rfl (Or.inl rfl) rfl rfl) rfl (pb (v:=.ty "tuple") rfl T.z_tuple (by decide +kernel) rfl (by decide) rfl)) (xZ (vK (eZ hr.units) (eB bI rfl T.z_len (by decide +kernel) (eA (ai 0 rfl (Or.inl rfl) rfl rfl) aR rfl) rfl rfl (by decide) rfl) bb (aY _)) (Ae (aJ G_are_letters (hr.mono (by omega)) rfl T.fW T.dt.kp T.gz .nil aI (eA (eIx aQ (ai 0 rfl (Or.inl rfl) rfl rfl) bb (fun _ _=>rfl)) (eA bb aR rfl) rfl) rfl rfl rfl)))))
theorem qY (T:Txt K mg t) (G_are_letters:bR P w K mg base t):jH P w K mg base t :=
 T.mQ.okJ qv (fun vs H Q E h=>aA h) (fun cdv A outer s H vs Q E hr h=>⟨_,oO T G_are_letters hr,by rw [show hV K t=rS K (gav t) gF from rfl];exact aS (N:=["thing"]) (cA T) h (by decide)⟩)
def gO (K:Fg) (t:Adr):TS :=
 (cI (CV (aG (fh K) [] E0 (ab (ah 0) aB)) (CV (aG (iq K) [] E0 (ab (ah 0) aB)) (aG (kH K) [] E0 (ab (ah 0) aB)))))
theorem o3 (T:Txt K mg t) (G_is_name:eU P w K mg base t) (G_is_number:fx P w K mg base t) (G_is_said:jH P w K mg base t) (hr:cp 2 (A.deeper (envOfC "is_node" (aa aK) s.heap.objs.size t.fb cdv))):JSs (fm CX0 P w K mg base ["thing"] "is_node" (aa aK) t.fb cdv A outer s H E).nox (ae aK) (gO K t):=by
 unfold gO;refine b7 ?_;exact (cK (eOr (aJ G_is_name (hr.mono (by omega)) rfl T.jP T.gm.kp T.jJ .nil aI (eA (ai 0 rfl (Or.inl rfl) rfl rfl) aR rfl) rfl rfl rfl) (eOr (aJ G_is_number (hr.mono (by omega)) rfl T.nV T.jm.kp T.oI .nil aI (eA (ai 0 rfl (Or.inl rfl) rfl rfl) aR rfl) rfl rfl rfl) (Ae (aJ G_is_said (hr.mono (by omega)) rfl T.u9 T.mQ.kp T.tJ .nil aI (eA (ai 0 rfl (Or.inl rfl) rfl rfl) aR rfl) rfl rfl rfl)))))
theorem rd (T:Txt K mg t) (G_is_name:eU P w K mg base t) (G_is_number:fx P w K mg base t) (G_is_said:jH P w K mg base t):jl P w K mg base t :=
 T.md.okJ qB (fun vs H Q E h=>aA h) (fun cdv A outer s H vs Q E hr h=>⟨_,o3 T G_is_name G_is_number G_is_said hr,by rw [show gO K t=rS K (gav t) gH from rfl];exact aS (N:=["thing"]) (cA T) h (by decide)⟩)
def gI (K:Fg) (t:Adr):TS :=
 (bL (fX (tB (tCB ((iD "str").r K) (ab (ah 0) aB))) (cI (tC (.str "thing"))) bT)
  (bL (fX (tB (tCB ((iD "tuple").r K) (ab (ah 0) aB))) (cI (tC (.str "said"))) bT)
  (cI (tC (.str "number")))))
theorem oa (T:Txt K mg t) (hr:cp 0 (A.deeper (envOfC "kind_of" (aa aP) s.heap.objs.size t.eT cdv))):JSs (fm CX0 P w K mg base ["node"] "kind_of" (aa aP) t.eT cdv A outer s H E).nox (ae aP) (gI K t):=by
 unfold gI;refine bP ?_ ?_
 ·refine iA ?_ ?_ ?_
  ·exact (qJ (rp rfl T.z_isinstance (ai 0 rfl (Or.inl rfl) rfl rfl) rfl (pb (v:=.ty "str") rfl T.z_str (by decide +kernel) rfl (by decide) rfl)) (fun _=>rfl))
  ·refine b7 ?_;exact (cK eM)
  ·exact iz
 ·refine bP ?_ ?_
  ·refine iA ?_ ?_ ?_
   ·exact (qJ (rp rfl T.z_isinstance (ai 0 rfl (Or.inl rfl) rfl rfl) rfl (pb (v:=.ty "tuple") rfl T.z_tuple (by decide +kernel) rfl (by decide) rfl)) (fun _=>rfl))
   ·refine b7 ?_;exact (cK eM)
   ·exact iz
  ·refine b7 ?_;exact (cK eM)
theorem qj (T:Txt K mg t):ju P w K mg base t :=
 T.nu.okJ qT (fun vs H Q E h=>aA h) (fun cdv A outer s H vs Q E hr h=>⟨_,oa T hr,by rw [show gI K t=rS K (gav t) hZ from rfl];exact aS (N:=["node"]) (cA T) h (by decide)⟩)
def fC (K:Fg) (t:Adr):TS :=
 (bL (dW (aG (kC K) [] E0 (ab (ah 0) aB)) (aW 1))
  (bL (fX (b5 (tOp (fun x y=>eqP.r K [x,y]) (ah 1) (tC (.str "number")))) (cI (rm (ab (tC (.int 0)) (ab (ah 0) (ab (tC (.str "")) aB))))) bT)
  (bL (fX (b5 (tOp (fun x y=>eqP.r K [x,y]) (ah 1) (tC (.str "said")))) (cI (rm (ab (tC (.int 1)) (ab (tC (.int 0)) (ab (tOp (fun x y=>ixP.r K [x,y]) (ah 0) (tC (.int 0))) aB))))) bT)
  (cI (rm (ab (tC (.int 2)) (ab (tC (.int 0)) (ab (ah 0) aB))))))))
theorem lV (T:Txt K mg t) (G_kind_of:ju P w K mg base t) (hr:cp 1 (A.deeper (envOfC "node_key" (aa aD) s.heap.objs.size t.de cdv))):JSs (fm CX0 P w K mg base ["node", "kind"] "node_key" (aa aD) t.de cdv A outer s H E).nox (ae aD) (fC K t):=by
 unfold fC;refine bP ?_ ?_
 ·refine fP (i:=1) ?_ jD.nd rfl (Or.inl rfl) rfl (Or.inl rfl);exact (aJ G_kind_of (hr.mono (by omega)) rfl T.uN T.nu.kp T.rQ .nil aI (eA (ai 0 rfl (Or.inl rfl) rfl rfl) aR rfl) rfl rfl rfl)
 ·refine bP ?_ ?_
  ·refine iA ?_ ?_ ?_
   ·exact (cE (eZ hr.units) (ai 1 rfl (Or.inl rfl) rfl rfl) eM (aY _))
   ·refine b7 ?_;exact (cK (vz (eA bb (eA (ai 0 rfl (Or.inl rfl) rfl rfl) (eA eM aR rfl) rfl) rfl)))
   ·exact iz
  ·refine bP ?_ ?_
   ·refine iA ?_ ?_ ?_
    ·exact (cE (eZ hr.units) (ai 1 rfl (Or.inl rfl) rfl rfl) eM (aY _))
    ·refine b7 ?_;exact (cK (vz (eA bb (eA bb (eA (eIx aQ (ai 0 rfl (Or.inl rfl) rfl rfl) bb (fun _ _=>rfl)) aR rfl) rfl) rfl)))
    ·exact iz
   ·refine b7 ?_;exact (cK (vz (eA bb (eA bb (eA (ai 0 rfl (Or.inl rfl) rfl rfl) aR rfl) rfl) rfl)))
theorem oz (T:Txt K mg t) (G_kind_of:ju P w K mg base t):gW P w K mg base t :=
 T.ki.okJ jD (fun vs H Q E h=>aA h) (fun cdv A outer s H vs Q E hr h=>⟨_,lV T G_kind_of hr,by rw [show fC K t=rS K (gav t) fN from rfl];exact aS (N:=["node", "kind"]) (cA T) h (by decide)⟩)
def g5 (K:Fg) (t:Adr):TS :=
 (bL (fX (tOr (ql (tB (tCB ((iD "tuple").r K) (ab (ah 0) aB)))) (b5 (tOp (fun x y=>neP.r K [x,y]) (tCB (dZ.r K) (ab (ah 0) aB)) (tC (.int 3))))) (cI (tC (.bl false))) bT)
  (cI (jE (aG (fh K) [] E0 (ab (tOp (fun x y=>ixP.r K [x,y]) (ah 0) (tC (.int 0))) aB)) (jE (aG (fh K) [] E0 (ab (tOp (fun x y=>ixP.r K [x,y]) (ah 0) (tC (.int 1))) aB)) (aG (kq K) [] E0 (ab (tOp (fun x y=>ixP.r K [x,y]) (ah 0) (tC (.int 2))) aB))))))
theorem nW (T:Txt K mg t) (G_is_name:eU P w K mg base t) (G_is_node:jl P w K mg base t) (hr:cp 3 (A.deeper (envOfC "is_fact" (aa aN) s.heap.objs.size t.eH cdv))):JSs (fm CX0 P w K mg base ["thing"] "is_fact" (aa aN) t.eH cdv A outer s H E).nox (ae aN) (g5 K t):=by
 unfold g5;refine bP ?_ ?_
 ·refine iA ?_ ?_ ?_
  ·exact (eW (vA (j7 (qJ (rp rfl T.z_isinstance (ai 0 rfl (Or.inl rfl) rfl rfl) rfl (pb (v:=.ty "tuple") rfl T.z_tuple (by decide +kernel) rfl (by decide) rfl)) (fun _=>rfl))) (m5 (cE (jI hr.units) (eB bI rfl T.z_len (by decide +kernel) (eA (ai 0 rfl (Or.inl rfl) rfl rfl) aR rfl) rfl rfl (by decide) rfl) bb (aY _)))))
  ·refine b7 ?_;exact (cK eBl)
  ·exact iz
 ·refine b7 ?_;exact (cK (xZ (aJ G_is_name (hr.mono (by omega)) rfl T.jP T.gm.kp T.jJ .nil aI (eA (eIx aQ (ai 0 rfl (Or.inl rfl) rfl rfl) bb (fun _ _=>rfl)) aR rfl) rfl rfl rfl) (xZ (aJ G_is_name (hr.mono (by omega)) rfl T.jP T.gm.kp T.jJ .nil aI (eA (eIx aQ (ai 0 rfl (Or.inl rfl) rfl rfl) bb (fun _ _=>rfl)) aR rfl) rfl rfl rfl) (Ae (aJ G_is_node (hr.mono (by omega)) rfl T.uP T.md.kp T.tT .nil aI (eA (eIx aQ (ai 0 rfl (Or.inl rfl) rfl rfl) bb (fun _ _=>rfl)) aR rfl) rfl rfl rfl)))))
theorem qQ (T:Txt K mg t) (G_is_name:eU P w K mg base t) (G_is_node:jl P w K mg base t):jC P w K mg base t :=
 T.mW.okJ rg (fun vs H Q E h=>aA h) (fun cdv A outer s H vs Q E hr h=>⟨_,nW T G_is_name G_is_node hr,by rw [show g5 K t=rS K (gav t) gG from rfl];exact aS (N:=["thing"]) (cA T) h (by decide)⟩)
def fy (K:Fg) (t:Adr):TS :=
 (cI (rm (ab (tOp (fun x y=>ixP.r K [x,y]) (ah 0) (tC (.int 0))) (ab (tOp (fun x y=>ixP.r K [x,y]) (ah 0) (tC (.int 1))) (ab (aG (jA K) [] E0 (ab (tOp (fun x y=>ixP.r K [x,y]) (ah 0) (tC (.int 2))) aB)) aB)))))
theorem m7 (T:Txt K mg t) (G_node_key:gW P w K mg base t) (hr:cp 2 (A.deeper (envOfC "fact_key" (aa aE) s.heap.objs.size t.dh cdv))):JSs (fm CX0 P w K mg base ["fact"] "fact_key" (aa aE) t.dh cdv A outer s H E).nox (ae aE) (fy K t):=by
 unfold fy;refine b7 ?_;exact (cK (vz (eA (eIx aQ (ai 0 rfl (Or.inl rfl) rfl rfl) bb (fun _ _=>rfl)) (eA (eIx aQ (ai 0 rfl (Or.inl rfl) rfl rfl) bb (fun _ _=>rfl)) (eA (aJ G_node_key (hr.mono (by omega)) rfl T.qI T.ki.kp T.q8 .nil aI (eA (eIx aQ (ai 0 rfl (Or.inl rfl) rfl rfl) bb (fun _ _=>rfl)) aR rfl) rfl rfl rfl) aR rfl) rfl) rfl)))
theorem oH (T:Txt K mg t) (G_node_key:gW P w K mg base t):gK P w K mg base t :=
 T.qG.okJ nR (fun vs H Q E h=>aA h) (fun cdv A outer s H vs Q E hr h=>⟨_,m7 T G_node_key hr,by rw [show fy K t=rS K (gav t) fF from rfl];exact aS (N:=["fact"]) (cA T) h (by decide)⟩)
def cb (K:Fg) (t:Adr):TS :=
 (bL (dW pj (aW 1))
  (bL (we (DO K (ah 0)) (aW 2) (qm K (ah 1) (ah 2) (tC (.bl true))))
  (cI (tCB ((Sg.mI fyS cc rfl).r K) (ab (ah 1) aB)))))
theorem gj (T:Txt K mg t) (G_fact_key:gK P w K mg base t) (hr:cp 5 (A.deeper (envOfC "facts_in_order" (aa ag) s.heap.objs.size t.bq cdv))):JSs (fm CX0 P w K mg base ["facts", "once", "fact"] "facts_in_order" (aa ag) t.bq cdv A outer s H E).nox (ae ag) (cb K t):=by
 unfold cb;refine bP ?_ ?_
 ·refine fP (i:=1) ?_ cg.nd rfl (Or.inl rfl) rfl (Or.inl rfl);exact BY
 ·refine bP ?_ ?_
  ·refine AJ ?_ (eGN (i:=2) cg.nd rfl (Or.inl rfl) (Or.inl rfl)) ?_ K1 rfl (fun _=>rfl)
   ·exact (G5 (ai 0 rfl (Or.inl rfl) rfl rfl))
   ·refine b7 ?_;exact (se hr.units (ai 1 rfl (Or.inl rfl) rfl rfl) (ai 2 rfl (Or.inl rfl) rfl rfl) eBl rfl)
  ·refine b7 ?_;exact (cK (Sg.BE fyS rfl G_fact_key (hr.mono (by omega)) T.qx rfl T.z_sorted (by decide +kernel) rfl T.qH rfl (eA (ai 1 rfl (Or.inl rfl) rfl rfl) aR rfl) rfl))
theorem gC (T:Txt K mg t) (G_fact_key:gK P w K mg base t):cz P w K mg base t :=
 T.dR.okJ cg (fun vs H Q E h=>aA h) (fun cdv A outer s H vs Q E hr h=>⟨_,gj T G_fact_key hr,by rw [show cb K t=rS K (gav t) bB from rfl];exact aS (N:=["facts", "once", "fact"]) (cA T) h (by decide)⟩)
def eh (K:Fg) (t:Adr):TS :=
 (cI (tCB (Ac.r K) (ab (j4 [] (DO K (ah 0)) xp (aG (ku K) [] E0 (ab (ah 0) aB))) aB)))
theorem lu (T:Txt K mg t) (G_is_fact:jC P w K mg base t) (hr:cp 4 (A.deeper (envOfC "are_facts" (aa aw) s.heap.objs.size t.cH cdv))):JSs (fm CX0 P w K mg base ["things"] "are_facts" (aa aw) t.cH cdv A outer s H E).nox (ae aw) (eh K t):=by
 unfold eh;refine b7 ?_;exact (cK (eB (uJ rfl) rfl T.z_all (by decide +kernel) (eA (wU [] (G5 (ai 0 rfl (Or.inl rfl) rfl rfl)) eT0 (eC fun _ _ _ _=>(aJ G_is_fact (hr.mono (by omega)) rfl T.uA T.mW.kp T.tL .nil aI (eA (ai 0 rfl (Or.inl rfl) rfl rfl) aR rfl) rfl rfl rfl)) rfl (bsc (sc:=aa aw) rfl (by decide +kernel)) (by decide +kernel) trivial (fun _=>rfl)) aR rfl) rfl rfl (by decide) rfl))
theorem lY (T:Txt K mg t) (G_is_fact:jC P w K mg base t):fB P w K mg base t :=
 T.iX.okJ mZ (fun vs H Q E h=>aA h) (fun cdv A outer s H vs Q E hr h=>⟨_,lu T G_is_fact hr,by rw [show eh K t=rS K (gav t) cM from rfl];exact aS (N:=["things"]) (cA T) h (by decide)⟩)
def i0 (K:Fg) (t:Adr):TS :=
 (bL (fX (tOr (ql (tB (tCB (yj.r K) (ab (ah 0) aB)))) (ql (tB (aG (iu K) [] E0 (ab (ah 0) aB))))) p8 bT)
  (bL (dW (tCB (ng.r K) (ab (aG (cY K) [] E0 (ab (ah 0) aB)) aB)) (aW 1))
  (bL (fX (b5 (tOp (fun x y=>gtP.r K [x,y]) (tCB (dZ.r K) (ab (ah 1) aB)) (tC (.int 400)))) p8 bT)
  (cI (ah 1)))))
theorem qL (T:Txt K mg t) (G_are_facts:fB P w K mg base t) (G_facts_in_order:cz P w K mg base t) (hr:cp 6 (A.deeper (envOfC "web_of" (aa aV) s.heap.objs.size t.gq cdv))):JSs (fm CX0 P w K mg base ["facts", "web"] "web_of" (aa aV) t.gq cdv A outer s H E).nox (ae aV) (i0 K t):=by
 unfold i0;refine bP ?_ ?_
 ·refine iA ?_ ?_ ?_
  ·exact (eW (vA (j7 (qJ (Fd rfl T.z_isinstance (ai 0 rfl (Or.inl rfl) rfl rfl) rfl (pb (v:=.ty "list") rfl T.z_list (by decide +kernel) rfl (by decide) rfl) (pb (v:=.ty "tuple") rfl T.z_tuple (by decide +kernel) rfl (by decide) rfl)) (fun _=>rfl))) (m5 (j7 (qJ (aJ G_are_facts (hr.mono (by omega)) rfl T.nP T.iX.kp T.nY .nil aI (eA (ai 0 rfl (Or.inl rfl) rfl rfl) aR rfl) rfl rfl rfl) (fun _=>rfl))))))
  ·refine b7 ?_;exact xF
  ·exact iz
 ·refine bP ?_ ?_
  ·refine fP (i:=1) ?_ my.nd rfl (Or.inl rfl) rfl (Or.inl rfl);exact (eTy ml rfl T.z_tuple (by decide +kernel) (eA (aJ G_facts_in_order (hr.mono (by omega)) rfl T.iH T.dR.kp T.iJ .nil aI (eA (ai 0 rfl (Or.inl rfl) rfl rfl) aR rfl) rfl rfl rfl) aR rfl) rfl rfl (by decide) rfl)
  ·refine bP ?_ ?_
   ·refine iA ?_ ?_ ?_
    ·exact (cE pA (eB bI rfl T.z_len (by decide +kernel) (eA (ai 1 rfl (Or.inl rfl) rfl rfl) aR rfl) rfl rfl (by decide) rfl) (zU (v:=.int 400) rfl T.g_MOST_FACTS ⟨_,rfl⟩ rfl) (aY _))
    ·refine b7 ?_;exact xF
    ·exact iz
   ·refine b7 ?_;exact (cK (ai 1 rfl (Or.inl rfl) rfl rfl))
theorem rB (T:Txt K mg t) (G_are_facts:fB P w K mg base t) (G_facts_in_order:cz P w K mg base t):kW P w K mg base t :=
 T.fe.okJ my (fun vs H Q E h=>aA h) (fun cdv A outer s H vs Q E hr h=>⟨_,qL T G_are_facts G_facts_in_order hr,by rw [show i0 K t=rS K (gav t) gi from rfl];exact aS (N:=["facts", "web"]) (cA T) h (by decide)⟩)
def uK (K:Fg) (t:Adr):TS :=
 (cI (pE (((tC (.str "script")),(ah 0)) :: (((tC (.str "at")),(tC (.int 0))) :: (((tC (.str "left")),(tC (.int 0))) :: [])))))
theorem yo (T:Txt K mg t) (hr:cp 0 (A.deeper (envOfC "_law_pen" (aa cj) s.heap.objs.size t.uE cdv))):JSs (fm CX0 P w K mg base ["_law_script"] "_law_pen" (aa cj) t.uE cdv A outer s H E).nox (ae cj) (uK K t):=by
 unfold uK;refine b7 ?_;exact (cK (AE (ePC eM (ai 0 rfl (Or.inl rfl) rfl rfl) (ePC eM bb (ePC eM bb ePN))) (by rfl) (by rfl) (by simp) (by decide)))
theorem Ca (T:Txt K mg t):zC P w K mg base t :=
 T.CJ.okJ Ba (fun vs H Q E h=>aA h) (fun cdv A outer s H vs Q E hr h=>⟨_,yo T hr,by rw [show uK K t=rS K (gav t) xj from rfl];exact aS (N:=["_law_script"]) (cA T) h (by decide)⟩)
def nT (K:Fg) (t:Adr):TS :=
 (bL (dW (tOp (fun x y=>eD.r K [x,y]) (ah 0) (tC (.str "at"))) (aW 2))
  (bL (fX (b5 (tOp (fun x y=>eqP.r K [x,y]) (tOp (fun x y=>eD.r K [x,y]) (ah 0) (tC (.str "left"))) (tC (.int 0)))) (bL (qm K (ah 0) (tC (.str "at")) (tOp (fun x y=>il.r K [x,y]) (ah 2) (tC (.int 1))))
  (bL (dW (tC (.int 1321)) (aW 3))
  (bL (fX (b5 (tOp (fun x y=>gtP.r K [x,y]) (tCB (dZ.r K) (ab (tOp (fun x y=>eD.r K [x,y]) (ah 0) (tC (.str "script"))) aB)) (tC (.int 0)))) (dW (tOp (fun x y=>ixP.r K [x,y]) (tOp (fun x y=>eD.r K [x,y]) (ah 0) (tC (.str "script"))) (tOp (fun x y=>lg.r K [x,y]) (ah 2) (tCB (dZ.r K) (ab (tOp (fun x y=>eD.r K [x,y]) (ah 0) (tC (.str "script"))) aB)))) (aW 3)) bT)
  (bL (fX (tOr (b5 (tOp (fun x y=>geP.r K [x,y]) (ah 2) (tCB (dZ.r K) (ab (tOp (fun x y=>eD.r K [x,y]) (ah 0) (tC (.str "script"))) aB)))) (b5 (tOp (fun x y=>ltP.r K [x,y]) (tCB (yM.r K) (ab (ah 3) aB)) (tOp (fun x y=>AW.r K [x,y]) (tC (.int 10)) (tC (.int 18)))))) (bL (dW (tOp (fun x y=>il.r K [x,y]) (tOp (fun x y=>il.r K [x,y]) (tOp (fun x y=>lg.r K [x,y]) (ah 3) (tC (.int 2147483497))) (tOp (fun x y=>lT.r K [x,y]) (tC (.int 86028157)) (ah 2))) (tC (.int 613))) (aW 3))
  (bL (dW (tOp (fun x y=>lg.r K [x,y]) (tOp (fun x y=>lT.r K [x,y]) (ah 3) (tC (.int 48271))) (tC (.int 2147483647))) (aW 4))
  (bL (dW (tOp (fun x y=>lg.r K [x,y]) (tOp (fun x y=>il.r K [x,y]) (tOp (fun x y=>il.r K [x,y]) (tOp (fun x y=>lT.r K [x,y]) (ah 4) (ah 4)) (tOp (fun x y=>lT.r K [x,y]) (tC (.int 4001)) (ah 4))) (tOp (fun x y=>lT.r K [x,y]) (tC (.int 67867979)) (ah 2))) (tC (.int 2147483579))) (aW 4))
  (cI (tOp (fun x y=>lg.r K [x,y]) (tOp (fun x y=>n4.r K [x,y]) (tOp (fun x y=>lg.r K [x,y]) (tOp (fun x y=>lT.r K [x,y]) (ah 4) (tC (.int 39373))) (tC (.int 2147483587))) (tC (.int 9))) (ah 1)))))) bT)
  (qm K (ah 0) (tC (.str "left")) (tCB (yM.r K) (ab (ah 3) aB))))))) bT)
  (bL (dW (tOp (fun x y=>lg.r K [x,y]) (tOp (fun x y=>eD.r K [x,y]) (ah 0) (tC (.str "left"))) (ah 1)) (aW 5))
  (bL (qm K (ah 0) (tC (.str "left")) (tOp (fun x y=>n4.r K [x,y]) (tOp (fun x y=>eD.r K [x,y]) (ah 0) (tC (.str "left"))) (ah 1)))
  (cI (ah 5))))))
theorem vY (T:Txt K mg t) (hr:cp 0 (A.deeper (envOfC "_law_take" (aa bD) s.heap.objs.size t.mh cdv))):JSs (fm CX0 P w K mg base ["_law_pen_here", "_law_most", "_law_at", "_law_cell", "_law_n", "_law_found"] "_law_take" (aa bD) t.mh cdv A outer s H E).nox (ae bD) (nT K t):=by
 unfold nT;refine bP ?_ ?_
 ·refine fP (i:=2) ?_ d7.nd rfl (Or.inl rfl) rfl (Or.inl rfl);exact (lZ hr.units (ai 0 rfl (Or.inl rfl) rfl rfl) eM (fun _ _=>rfl))
 ·refine bP ?_ ?_
  ·refine iA ?_ ?_ ?_
   ·exact (cE (eZ hr.units) (lZ hr.units (ai 0 rfl (Or.inl rfl) rfl rfl) eM (fun _ _=>rfl)) bb (aY _))
   ·refine bP ?_ ?_
    ·exact (se hr.units (ai 0 rfl (Or.inl rfl) rfl rfl) eM (eOp cw (ai 2 rfl (Or.inl rfl) rfl rfl) bb) rfl)
    ·refine bP ?_ ?_
     ·refine fP (i:=3) ?_ d7.nd rfl (Or.inl rfl) rfl (Or.inl rfl);exact bb
     ·refine bP ?_ ?_
      ·refine iA ?_ ?_ ?_
       ·exact (cE pA (eB bI rfl T.z_len (by decide +kernel) (eA (lZ hr.units (ai 0 rfl (Or.inl rfl) rfl rfl) eM (fun _ _=>rfl)) aR rfl) rfl rfl (by decide) rfl) bb (aY _))
       ·refine b7 ?_;refine fP (i:=3) ?_ d7.nd rfl (Or.inl rfl) rfl (Or.inl rfl);exact (eIx aQ (lZ hr.units (ai 0 rfl (Or.inl rfl) rfl rfl) eM (fun _ _=>rfl)) (eOp dN (ai 2 rfl (Or.inl rfl) rfl rfl) (eB bI rfl T.z_len (by decide +kernel) (eA (lZ hr.units (ai 0 rfl (Or.inl rfl) rfl rfl) eM (fun _ _=>rfl)) aR rfl) rfl rfl (by decide) rfl)) (fun _ _=>rfl))
       ·exact iz
      ·refine bP ?_ ?_
       ·refine iA ?_ ?_ ?_
        ·exact (eW (vA (cE By (ai 2 rfl (Or.inl rfl) rfl rfl) (eB bI rfl T.z_len (by decide +kernel) (eA (lZ hr.units (ai 0 rfl (Or.inl rfl) rfl rfl) eM (fun _ _=>rfl)) aR rfl) rfl rfl (by decide) rfl) (aY _)) (m5 (cE jU (eB nQ rfl T.z_abs (by decide +kernel) (eA (ai 3 rfl (Or.inl rfl) rfl rfl) aR rfl) rfl rfl (by decide) rfl) (eOp vg bb bb) (aY _)))))
        ·refine bP ?_ ?_
         ·refine fP (i:=3) ?_ d7.nd rfl (Or.inl rfl) rfl (Or.inl rfl);exact (eOp cw (eOp cw (eOp dN (ai 3 rfl (Or.inl rfl) rfl rfl) bb) (eOp eE bb (ai 2 rfl (Or.inl rfl) rfl rfl))) bb)
         ·refine bP ?_ ?_
          ·refine fP (i:=4) ?_ d7.nd rfl (Or.inl rfl) rfl (Or.inl rfl);exact (eOp dN (eOp eE (ai 3 rfl (Or.inl rfl) rfl rfl) bb) bb)
          ·refine bP ?_ ?_
           ·refine fP (i:=4) ?_ d7.nd rfl (Or.inl rfl) rfl (Or.inl rfl);exact (eOp dN (eOp cw (eOp cw (eOp eE (ai 4 rfl (Or.inl rfl) rfl rfl) (ai 4 rfl (Or.inl rfl) rfl rfl)) (eOp eE bb (ai 4 rfl (Or.inl rfl) rfl rfl))) (eOp eE bb (ai 2 rfl (Or.inl rfl) rfl rfl))) bb)
           ·refine b7 ?_;exact (cK (eOp dN (eOp lE (eOp dN (eOp eE (ai 4 rfl (Or.inl rfl) rfl rfl) bb) bb) bb) (ai 1 rfl (Or.inl rfl) rfl rfl)))
        ·exact iz
       ·refine b7 ?_;exact (se hr.units (ai 0 rfl (Or.inl rfl) rfl rfl) eM (eB nQ rfl T.z_abs (by decide +kernel) (eA (ai 3 rfl (Or.inl rfl) rfl rfl) aR rfl) rfl rfl (by decide) rfl) rfl)
   ·exact iz
  ·refine bP ?_ ?_
   ·refine fP (i:=5) ?_ d7.nd rfl (Or.inl rfl) rfl (Or.inl rfl);exact (eOp dN (lZ hr.units (ai 0 rfl (Or.inl rfl) rfl rfl) eM (fun _ _=>rfl)) (ai 1 rfl (Or.inl rfl) rfl rfl))
   ·refine bP ?_ ?_
    ·exact (se hr.units (ai 0 rfl (Or.inl rfl) rfl rfl) eM (eOp lE (lZ hr.units (ai 0 rfl (Or.inl rfl) rfl rfl) eM (fun _ _=>rfl)) (ai 1 rfl (Or.inl rfl) rfl rfl)) rfl)
    ·refine b7 ?_;exact (cK (ai 5 rfl (Or.inl rfl) rfl rfl))
theorem zA (T:Txt K mg t):cV P w K mg base t :=
 T.bF.okJ d7 (fun vs H Q E h=>aA h) (fun cdv A outer s H vs Q E hr h=>⟨_,vY T hr,by rw [show nT K t=rS K (gav t) ou from rfl];exact aS (N:=["_law_pen_here", "_law_most", "_law_at", "_law_cell", "_law_n", "_law_found"]) (cA T) h (by decide)⟩)
def og (K:Fg) (t:Adr):TS :=
 (bL (dW (tOp (fun x y=>ixP.r K [x,y]) (xb (ab (tC (.str "")) (ab (tC (.str "")) (ab (tC (.str "")) (ab (tOp (fun x y=>ixP.r K [x,y]) (xb (ab (tC (.str "any")) (ab (tC (.str "keeps")) (ab (tC (.str "least")) (ab (tC (.str "is")) (ab (tC (.str "all")) (ab (tC (.str "many")) aB))))))) (aG (aZ K) [] E0 (ab (ah 0) (ab (tC (.int 6)) aB)))) aB))))) (aG (aZ K) [] E0 (ab (ah 0) (ab (tC (.int 4)) aB)))) (aW 2))
  (bL (pq (b5 (tOp (fun x y=>ltP.r K [x,y]) (tCB (dZ.r K) (ab (ah 2) aB)) (ah 1))) (dW (tOp (fun x y=>il.r K [x,y]) (ah 2) (tOp (fun x y=>ixP.r K [x,y]) (tC (.str "abcdefghijklmnopqrstuvwxyz")) (aG (aZ K) [] E0 (ab (ah 0) (ab (tC (.int 26)) aB))))) (aW 2)))
  (cI (tSl (Be EF (Be (Gm K) (Ge K))) (ah 2) jL (vH (ah 1))))))
theorem vy (T:Txt K mg t) (G_take:cV P w K mg base t) (hr:cp 1 (A.deeper (envOfC "_law_word" (aa bC) s.heap.objs.size t.nj cdv))):JSs (fm CX0 P w K mg base ["_law_pen_here", "_law_many", "_law_word_here"] "_law_word" (aa bC) t.nj cdv A outer s H E).nox (ae bC) (og K t):=by
 unfold og;refine bP ?_ ?_
 ·refine fP (i:=2) ?_ oQ.nd rfl (Or.inl rfl) rfl (Or.inl rfl);exact (eIx aQ (CT (eA eM (eA eM (eA eM (eA (eIx aQ (CT (eA eM (eA eM (eA eM (eA eM (eA eM (eA eM aR rfl) rfl) rfl) rfl) rfl) rfl)) (aJ G_take (hr.mono (by omega)) rfl T.bK T.bF.kp T.bJ .nil aI (eA (ai 0 rfl (Or.inl rfl) rfl rfl) (eA bb aR rfl) rfl) rfl rfl rfl) (fun _ _=>rfl)) aR rfl) rfl) rfl) rfl)) (aJ G_take (hr.mono (by omega)) rfl T.bK T.bF.kp T.bJ .nil aI (eA (ai 0 rfl (Or.inl rfl) rfl rfl) (eA bb aR rfl) rfl) rfl rfl rfl) (fun _ _=>rfl))
 ·refine bP ?_ ?_
  ·refine Cy ?_ ?_ K1
   ·exact (cE jU (eB bI rfl T.z_len (by decide +kernel) (eA (ai 2 rfl (Or.inl rfl) rfl rfl) aR rfl) rfl rfl (by decide) rfl) (ai 1 rfl (Or.inl rfl) rfl rfl) (aY _))
   ·refine b7 ?_;refine fP (i:=2) ?_ oQ.nd rfl (Or.inl rfl) rfl (Or.inl rfl);exact (eOp cw (ai 2 rfl (Or.inl rfl) rfl rfl) (eIx aQ eM (aJ G_take (hr.mono (by omega)) rfl T.bK T.bF.kp T.bJ .nil aI (eA (ai 0 rfl (Or.inl rfl) rfl rfl) (eA bb aR rfl) rfl) rfl rfl rfl) (fun _ _=>rfl)))
  ·refine b7 ?_;exact (cK (eSl (orS Au (orS zB Am)) (ai 2 rfl (Or.inl rfl) rfl rfl) D3 (eP (ai 1 rfl (Or.inl rfl) rfl rfl))))
theorem z6 (T:Txt K mg t) (G_take:cV P w K mg base t):mB P w K mg base t :=
 T.uS.okJ oQ (fun vs H Q E h=>aA h) (fun cdv A outer s H vs Q E hr h=>⟨_,vy T G_take hr,by rw [show og K t=rS K (gav t) oT from rfl];exact aS (N:=["_law_pen_here", "_law_many", "_law_word_here"]) (cA T) h (by decide)⟩)
def kU (K:Fg) (t:Adr):TS :=
 (bL (dW (xb aB) (aW 2))
  (bL (we (ma (ab (tOp (fun x y=>il.r K [x,y]) (tC (.int 1)) (aG (aZ K) [] E0 (ab (ah 0) (ab (ah 1) aB)))) aB)) (aW 3) (bL (dW (aG (n6 K) [] E0 (ab (ah 0) (ab (tOp (fun x y=>il.r K [x,y]) (tC (.int 1)) (aG (aZ K) [] E0 (ab (ah 0) (ab (tC (.int 8)) aB)))) aB))) (aW 4))
  (fX (b5 (tOp (fun x y=>pI.r K [x,y]) (ah 4) (ah 2))) (qN (tBM K "list" (Ak.r K) (ah 2) (ab (ah 4) aB))) bT)))
  (cI (ah 2))))
theorem rG (T:Txt K mg t) (G_take:cV P w K mg base t) (G_word:mB P w K mg base t) (hr:cp 2 (A.deeper (envOfC "_law_words" (aa bg) s.heap.objs.size t.jR cdv))):JSs (fm CX0 P w K mg base ["_law_pen_here", "_law_most", "_law_words_here", "_law_k", "_law_word_here"] "_law_words" (aa bg) t.jR cdv A outer s H E).nox (ae bg) (kU K t):=by
 unfold kU;refine bP ?_ ?_
 ·refine fP (i:=2) ?_ iS.nd rfl (Or.inl rfl) rfl (Or.inl rfl);exact (CT aR)
 ·refine bP ?_ ?_
  ·refine AJ ?_ (eGN (i:=3) iS.nd rfl (Or.inl rfl) (Or.inl rfl)) ?_ K1 rfl (fun _=>rfl)
   ·exact (eR1 rfl T.z_range (eA (eOp cw bb (aJ G_take (hr.mono (by omega)) rfl T.bK T.bF.kp T.bJ .nil aI (eA (ai 0 rfl (Or.inl rfl) rfl rfl) (eA (ai 1 rfl (Or.inl rfl) rfl rfl) aR rfl) rfl) rfl rfl rfl)) aR rfl) rfl)
   ·refine bP ?_ ?_
    ·refine fP (i:=4) ?_ iS.nd rfl (Or.inl rfl) rfl (Or.inl rfl);exact (aJ G_word (hr.mono (by omega)) rfl T.xh T.uS.kp T.xU .nil aI (eA (ai 0 rfl (Or.inl rfl) rfl rfl) (eA (eOp cw bb (aJ G_take (hr.mono (by omega)) rfl T.bK T.bF.kp T.bJ .nil aI (eA (ai 0 rfl (Or.inl rfl) rfl rfl) (eA bb aR rfl) rfl) rfl rfl rfl)) aR rfl) rfl) rfl rfl rfl)
    ·refine b7 ?_;refine iA ?_ ?_ ?_
     ·exact (cE (vd hr.units) (ai 4 rfl (Or.inl rfl) rfl rfl) (ai 2 rfl (Or.inl rfl) rfl rfl) (by with_unfolding_all rfl))
     ·refine b7 ?_;exact (yr (eBM (ai 2 rfl (Or.inl rfl) rfl rfl) (eA (ai 4 rfl (Or.inl rfl) rfl rfl) aR rfl) lX PySem.F.plainAttrs_list PySem.F.slot_list_append PySem.F.type_list_append rfl rfl rfl rfl rfl) rfl)
     ·exact iz
  ·refine b7 ?_;exact (cK (ai 2 rfl (Or.inl rfl) rfl rfl))
theorem wo (T:Txt K mg t) (G_take:cV P w K mg base t) (G_word:mB P w K mg base t):oD P w K mg base t :=
 T.oq.okJ iS (fun vs H Q E h=>aA h) (fun cdv A outer s H vs Q E hr h=>⟨_,rG T G_take G_word hr,by rw [show kU K t=rS K (gav t) lp from rfl];exact aS (N:=["_law_pen_here", "_law_most", "_law_words_here", "_law_k", "_law_word_here"]) (cA T) h (by decide)⟩)
def oU (K:Fg) (t:Adr):TS :=
 (bL (dW (aG (aZ K) [] E0 (ab (ah 0) (ab (tC (.int 6)) aB))) (aW 2))
  (bL (fX (b5 (tOp (fun x y=>ltP.r K [x,y]) (ah 2) (tC (.int 3)))) (cI (tOp (fun x y=>ixP.r K [x,y]) (ah 1) (aG (aZ K) [] E0 (ab (ah 0) (ab (tCB (dZ.r K) (ab (ah 1) aB)) aB))))) bT)
  (bL (fX (b5 (tOp (fun x y=>eqP.r K [x,y]) (ah 2) (tC (.int 3)))) (cI (tOp (fun x y=>wN.r K [x,y]) (aG (aZ K) [] E0 (ab (ah 0) (ab (tC (.int 9)) aB))) (tC (.int 4)))) bT)
  (bL (fX (b5 (tOp (fun x y=>eqP.r K [x,y]) (ah 2) (tC (.int 4)))) (cI (tOp (fun x y=>lT.r K [x,y]) (tOp (fun x y=>ixP.r K [x,y]) (xb (ab (tC (.int 1)) (ab (tUn (rU fun i=>.int (-i)) (tC (.int 1))) aB))) (aG (aZ K) [] E0 (ab (ah 0) (ab (tC (.int 2)) aB)))) (tOp (fun x y=>wN.r K [x,y]) (tOp (fun x y=>wN.r K [x,y]) (tOp (fun x y=>AW.r K [x,y]) (tC (.int 10)) (tC (.int 30))) (tC (.int 1))) (aG (aZ K) [] E0 (ab (ah 0) (ab (tC (.int 3)) aB)))))) bT)
  (cI (rm (ab (aG (n6 K) [] E0 (ab (ah 0) (ab (aG (aZ K) [] E0 (ab (ah 0) (ab (tC (.int 9)) aB))) aB))) aB)))))))
theorem vE (T:Txt K mg t) (G_take:cV P w K mg base t) (G_word:mB P w K mg base t) (hr:cp 2 (A.deeper (envOfC "_law_node" (aa bA) s.heap.objs.size t.mF cdv))):JSs (fm CX0 P w K mg base ["_law_pen_here", "_law_things", "_law_way"] "_law_node" (aa bA) t.mF cdv A outer s H E).nox (ae bA) (oU K t):=by
 unfold oU;refine bP ?_ ?_
 ·refine fP (i:=2) ?_ tM.nd rfl (Or.inl rfl) rfl (Or.inl rfl);exact (aJ G_take (hr.mono (by omega)) rfl T.bK T.bF.kp T.bJ .nil aI (eA (ai 0 rfl (Or.inl rfl) rfl rfl) (eA bb aR rfl) rfl) rfl rfl rfl)
 ·refine bP ?_ ?_
  ·refine iA ?_ ?_ ?_
   ·exact (cE jU (ai 2 rfl (Or.inl rfl) rfl rfl) bb (aY _))
   ·refine b7 ?_;exact (cK (eIx aQ (ai 1 rfl (Or.inl rfl) rfl rfl) (aJ G_take (hr.mono (by omega)) rfl T.bK T.bF.kp T.bJ .nil aI (eA (ai 0 rfl (Or.inl rfl) rfl rfl) (eA (eB bI rfl T.z_len (by decide +kernel) (eA (ai 1 rfl (Or.inl rfl) rfl rfl) aR rfl) rfl rfl (by decide) rfl) aR rfl) rfl) rfl rfl rfl) (fun _ _=>rfl)))
   ·exact iz
  ·refine bP ?_ ?_
   ·refine iA ?_ ?_ ?_
    ·exact (cE (eZ hr.units) (ai 2 rfl (Or.inl rfl) rfl rfl) bb (aY _))
    ·refine b7 ?_;exact (cK (eOp kQ (aJ G_take (hr.mono (by omega)) rfl T.bK T.bF.kp T.bJ .nil aI (eA (ai 0 rfl (Or.inl rfl) rfl rfl) (eA bb aR rfl) rfl) rfl rfl rfl) bb))
    ·exact iz
   ·refine bP ?_ ?_
    ·refine iA ?_ ?_ ?_
     ·exact (cE (eZ hr.units) (ai 2 rfl (Or.inl rfl) rfl rfl) bb (aY _))
     ·refine b7 ?_;exact (cK (eOp eE (eIx aQ (CT (eA bb (eA (eUn xH bb) aR rfl) rfl)) (aJ G_take (hr.mono (by omega)) rfl T.bK T.bF.kp T.bJ .nil aI (eA (ai 0 rfl (Or.inl rfl) rfl rfl) (eA bb aR rfl) rfl) rfl rfl rfl) (fun _ _=>rfl)) (eOp kQ (eOp kQ (eOp vg bb bb) bb) (aJ G_take (hr.mono (by omega)) rfl T.bK T.bF.kp T.bJ .nil aI (eA (ai 0 rfl (Or.inl rfl) rfl rfl) (eA bb aR rfl) rfl) rfl rfl rfl))))
     ·exact iz
    ·refine b7 ?_;exact (cK (vz (eA (aJ G_word (hr.mono (by omega)) rfl T.xh T.uS.kp T.xU .nil aI (eA (ai 0 rfl (Or.inl rfl) rfl rfl) (eA (aJ G_take (hr.mono (by omega)) rfl T.bK T.bF.kp T.bJ .nil aI (eA (ai 0 rfl (Or.inl rfl) rfl rfl) (eA bb aR rfl) rfl) rfl rfl rfl) aR rfl) rfl) rfl rfl rfl) aR rfl)))
theorem zR (T:Txt K mg t) (G_take:cV P w K mg base t) (G_word:mB P w K mg base t):tE P w K mg base t :=
 T.x8.okJ tM (fun vs H Q E h=>aA h) (fun cdv A outer s H vs Q E hr h=>⟨_,vE T G_take G_word hr,by rw [show oU K t=rS K (gav t) oW from rfl];exact aS (N:=["_law_pen_here", "_law_things", "_law_way"]) (cA T) h (by decide)⟩)
def kN (K:Fg) (t:Adr):TS :=
 (bL (dW (aG (ly K) [] E0 (ab (ah 0) (ab (tC (.int 9)) aB))) (aW 1))
  (bL (dW (aG (ly K) [] E0 (ab (ah 0) (ab (tC (.int 5)) aB))) (aW 2))
  (bL (dW (xb aB) (aW 3))
  (bL (we (ma (ab (aG (aZ K) [] E0 (ab (ah 0) (ab (tC (.int 31)) aB))) aB)) (aW 4) (bL (dW (rm (ab (tOp (fun x y=>ixP.r K [x,y]) (ah 1) (aG (aZ K) [] E0 (ab (ah 0) (ab (tCB (dZ.r K) (ab (ah 1) aB)) aB)))) (ab (tOp (fun x y=>ixP.r K [x,y]) (ah 2) (aG (aZ K) [] E0 (ab (ah 0) (ab (tCB (dZ.r K) (ab (ah 2) aB)) aB)))) (ab (aG (sR K) [] E0 (ab (ah 0) (ab (ah 1) aB))) aB)))) (aW 5))
  (bL (fX (AM (b5 (tOp (fun x y=>gtP.r K [x,y]) (tCB (dZ.r K) (ab (ah 3) aB)) (tC (.int 0)))) (b5 (tOp (fun x y=>eqP.r K [x,y]) (aG (aZ K) [] E0 (ab (ah 0) (ab (tC (.int 5)) aB))) (tC (.int 0))))) (dW (tOp (fun x y=>ixP.r K [x,y]) (ah 3) (aG (aZ K) [] E0 (ab (ah 0) (ab (tCB (dZ.r K) (ab (ah 3) aB)) aB)))) (aW 5)) bT)
  (qN (tBM K "list" (Ak.r K) (ah 3) (ab (ah 5) aB))))))
  (cI (ah 3))))))
theorem um (T:Txt K mg t) (G_words:oD P w K mg base t) (G_take:cV P w K mg base t) (G_node:tE P w K mg base t) (hr:cp 3 (A.deeper (envOfC "_law_facts" (aa bj) s.heap.objs.size t.ji cdv))):JSs (fm CX0 P w K mg base ["_law_pen_here", "_law_things", "_law_bonds", "_law_facts_here", "_law_k", "_law_fact"] "_law_facts" (aa bj) t.ji cdv A outer s H E).nox (ae bj) (kN K t):=by
 unfold kN;refine bP ?_ ?_
 ·refine fP (i:=1) ?_ dJ.nd rfl (Or.inl rfl) rfl (Or.inl rfl);exact (aJ G_words (hr.mono (by omega)) rfl T.m_words T.oq.kp T.uz .nil aI (eA (ai 0 rfl (Or.inl rfl) rfl rfl) (eA bb aR rfl) rfl) rfl rfl rfl)
 ·refine bP ?_ ?_
  ·refine fP (i:=2) ?_ dJ.nd rfl (Or.inl rfl) rfl (Or.inl rfl);exact (aJ G_words (hr.mono (by omega)) rfl T.m_words T.oq.kp T.uz .nil aI (eA (ai 0 rfl (Or.inl rfl) rfl rfl) (eA bb aR rfl) rfl) rfl rfl rfl)
  ·refine bP ?_ ?_
   ·refine fP (i:=3) ?_ dJ.nd rfl (Or.inl rfl) rfl (Or.inl rfl);exact (CT aR)
   ·refine bP ?_ ?_
    ·refine AJ ?_ (eGN (i:=4) dJ.nd rfl (Or.inl rfl) (Or.inl rfl)) ?_ K1 rfl (fun _=>rfl)
     ·exact (eR1 rfl T.z_range (eA (aJ G_take (hr.mono (by omega)) rfl T.bK T.bF.kp T.bJ .nil aI (eA (ai 0 rfl (Or.inl rfl) rfl rfl) (eA bb aR rfl) rfl) rfl rfl rfl) aR rfl) rfl)
     ·refine bP ?_ ?_
      ·refine fP (i:=5) ?_ dJ.nd rfl (Or.inl rfl) rfl (Or.inl rfl);exact (vz (eA (eIx aQ (ai 1 rfl (Or.inl rfl) rfl rfl) (aJ G_take (hr.mono (by omega)) rfl T.bK T.bF.kp T.bJ .nil aI (eA (ai 0 rfl (Or.inl rfl) rfl rfl) (eA (eB bI rfl T.z_len (by decide +kernel) (eA (ai 1 rfl (Or.inl rfl) rfl rfl) aR rfl) rfl rfl (by decide) rfl) aR rfl) rfl) rfl rfl rfl) (fun _ _=>rfl)) (eA (eIx aQ (ai 2 rfl (Or.inl rfl) rfl rfl) (aJ G_take (hr.mono (by omega)) rfl T.bK T.bF.kp T.bJ .nil aI (eA (ai 0 rfl (Or.inl rfl) rfl rfl) (eA (eB bI rfl T.z_len (by decide +kernel) (eA (ai 2 rfl (Or.inl rfl) rfl rfl) aR rfl) rfl rfl (by decide) rfl) aR rfl) rfl) rfl rfl rfl) (fun _ _=>rfl)) (eA (aJ G_node (hr.mono (by omega)) rfl T.CD T.x8.kp T.BM .nil aI (eA (ai 0 rfl (Or.inl rfl) rfl rfl) (eA (ai 1 rfl (Or.inl rfl) rfl rfl) aR rfl) rfl) rfl rfl rfl) aR rfl) rfl) rfl))
      ·refine bP ?_ ?_
       ·refine iA ?_ ?_ ?_
        ·exact (eW (Dg (cE pA (eB bI rfl T.z_len (by decide +kernel) (eA (ai 3 rfl (Or.inl rfl) rfl rfl) aR rfl) rfl rfl (by decide) rfl) bb (aY _)) (ya (cE (eZ hr.units) (aJ G_take (hr.mono (by omega)) rfl T.bK T.bF.kp T.bJ .nil aI (eA (ai 0 rfl (Or.inl rfl) rfl rfl) (eA bb aR rfl) rfl) rfl rfl rfl) bb (aY _)))))
        ·refine b7 ?_;refine fP (i:=5) ?_ dJ.nd rfl (Or.inl rfl) rfl (Or.inl rfl);exact (eIx aQ (ai 3 rfl (Or.inl rfl) rfl rfl) (aJ G_take (hr.mono (by omega)) rfl T.bK T.bF.kp T.bJ .nil aI (eA (ai 0 rfl (Or.inl rfl) rfl rfl) (eA (eB bI rfl T.z_len (by decide +kernel) (eA (ai 3 rfl (Or.inl rfl) rfl rfl) aR rfl) rfl rfl (by decide) rfl) aR rfl) rfl) rfl rfl rfl) (fun _ _=>rfl))
        ·exact iz
       ·refine b7 ?_;exact (yr (eBM (ai 3 rfl (Or.inl rfl) rfl rfl) (eA (ai 5 rfl (Or.inl rfl) rfl rfl) aR rfl) lX PySem.F.plainAttrs_list PySem.F.slot_list_append PySem.F.type_list_append rfl rfl rfl rfl rfl) rfl)
    ·refine b7 ?_;exact (cK (ai 3 rfl (Or.inl rfl) rfl rfl))
theorem wA (T:Txt K mg t) (G_words:oD P w K mg base t) (G_take:cV P w K mg base t) (G_node:tE P w K mg base t):oZ P w K mg base t :=
 T.tu.okJ dJ (fun vs H Q E h=>aA h) (fun cdv A outer s H vs Q E hr h=>⟨_,um T G_words G_take G_node hr,by rw [show kN K t=rS K (gav t) kM from rfl];exact aS (N:=["_law_pen_here", "_law_things", "_law_bonds", "_law_facts_here", "_law_k", "_law_fact"]) (cA T) h (by decide)⟩)
def du (K:Fg) (t:Adr):TS :=
 (bL (dW (tC (.str "abcdefghijklmnopqrst")) (aW 1))
  (bL (dW (tOp (fun x y=>il.r K [x,y]) (tC (.int 398)) (aG (aZ K) [] E0 (ab (ah 0) (ab (tC (.int 3)) aB)))) (aW 2))
  (bL (dW (aG (aZ K) [] E0 (ab (ah 0) (ab (tC (.int 400)) aB))) (aW 3))
  (bL (dW (j4 [3] (ma (ab (ah 2) aB)) xp (tOp (fun x y=>lg.r K [x,y]) (tOp (fun x y=>lT.r K [x,y]) (tC (.int 7)) (tOp (fun x y=>il.r K [x,y]) (ah 0) (ah 1))) (tC (.int 400)))) (aW 4))
  (cI (j4 [1] (qO K (ah 4)) xp (rm (ab (tOp (fun x y=>il.r K [x,y]) (tC (.str "a")) (tOp (fun x y=>ixP.r K [x,y]) (ah 1) (tOp (fun x y=>n4.r K [x,y]) (ah 0) (tC (.int 20))))) (ab (tC (.str "b")) (ab (tOp (fun x y=>ixP.r K [x,y]) (ah 1) (tOp (fun x y=>lg.r K [x,y]) (ah 0) (tC (.int 20)))) aB))))))))))
theorem j6 (T:Txt K mg t) (G_take:cV P w K mg base t) (hr:cp 1 (A.deeper (envOfC "_law_many_facts" (aa ao) s.heap.objs.size t.cq cdv))):JSs (fm CX0 P w K mg base ["_law_pen_here", "_law_letters", "_law_many", "_law_turn", "_law_ways"] "_law_many_facts" (aa ao) t.cq cdv A outer s H E).nox (ae ao) (du K t):=by
 unfold du;refine bP ?_ ?_
 ·refine fP (i:=1) ?_ bZ.nd rfl (Or.inr rfl) rfl (Or.inl rfl);exact eM
 ·refine bP ?_ ?_
  ·refine fP (i:=2) ?_ bZ.nd rfl (Or.inl rfl) rfl (Or.inl rfl);exact (eOp cw bb (aJ G_take (hr.mono (by omega)) rfl T.bK T.bF.kp T.bJ .nil aI (eA (ai 0 rfl (Or.inl rfl) rfl rfl) (eA bb aR rfl) rfl) rfl rfl rfl))
  ·refine bP ?_ ?_
   ·refine fP (i:=3) ?_ bZ.nd rfl (Or.inr rfl) rfl (Or.inl rfl);exact (aJ G_take (hr.mono (by omega)) rfl T.bK T.bF.kp T.bJ .nil aI (eA (ai 0 rfl (Or.inl rfl) rfl rfl) (eA bb aR rfl) rfl) rfl rfl rfl)
   ·refine bP ?_ ?_
    ·exact (ER (i:=4) ["_law_turn"] (eR1 rfl T.z_range (eA (ai 2 rfl (Or.inl rfl) rfl rfl) aR rfl) rfl) eT0 (eC fun _ _ _ _=>(eOp dN (eOp eE bb (eOp cw (ai 0 rfl (Or.inl rfl) rfl rfl) (ai 1 rfl (Or.inr (Or.inl rfl)) rfl rfl))) bb)) bZ.nd rfl rfl rfl rfl (bsc (sc:=aa ao) rfl (by decide +kernel)) (by decide +kernel) ⟨rfl,⟨rfl,rfl⟩,trivial⟩ (fun _=>rfl))
    ·refine b7 ?_;exact (cK (wU ["_law_letters"] (eIL (ai 4 rfl (Or.inl rfl) rfl rfl)) eT0 (eC fun _ _ _ _=>(vz (eA (eOp cw eM (eIx aQ (ai 1 rfl (Or.inr (Or.inl rfl)) rfl rfl) (eOp lE (ai 0 rfl (Or.inl rfl) rfl rfl) bb) (fun _ _=>rfl))) (eA eM (eA (eIx aQ (ai 1 rfl (Or.inr (Or.inl rfl)) rfl rfl) (eOp dN (ai 0 rfl (Or.inl rfl) rfl rfl) bb) (fun _ _=>rfl)) aR rfl) rfl) rfl))) rfl (bsc (sc:=aa ao) rfl (by decide +kernel)) (by decide +kernel) ⟨rfl,⟨rfl,rfl⟩,trivial⟩ (fun _=>rfl)))
theorem kJ (T:Txt K mg t) (G_take:cV P w K mg base t):e8 P w K mg base t :=
 T.ix.okJ bZ (fun vs H Q E h=>aA h) (fun cdv A outer s H vs Q E hr h=>⟨_,j6 T G_take hr,by rw [show du K t=rS K (gav t) dQ from rfl];exact aS (N:=["_law_pen_here", "_law_letters", "_law_many", "_law_turn", "_law_ways"]) (cA T) h (by decide)⟩)
def nN (K:Fg) (t:Adr):TS :=
 (bL (fX (tB (tCB ((iD "str").r K) (ab (ah 0) aB))) (cI (tC (.int 2))) bT)
  (cI (tCB (E3.r K) (ab (tCB ((iD "tuple").r K) (ab (ah 0) aB)) aB))))
theorem vZ (T:Txt K mg t) (hr:cp 0 (A.deeper (envOfC "_law_sort" (aa bz) s.heap.objs.size t.ny cdv))):JSs (fm CX0 P w K mg base ["_law_node_here"] "_law_sort" (aa bz) t.ny cdv A outer s H E).nox (ae bz) (nN K t):=by
 unfold nN;refine bP ?_ ?_
 ·refine iA ?_ ?_ ?_
  ·exact (qJ (rp rfl T.z_isinstance (ai 0 rfl (Or.inl rfl) rfl rfl) rfl (pb (v:=.ty "str") rfl T.z_str (by decide +kernel) rfl (by decide) rfl)) (fun _=>rfl))
  ·refine b7 ?_;exact (cK bb)
  ·exact iz
 ·refine b7 ?_;exact (cK (eTy yO rfl T.z_int (by decide +kernel) (eA (rp rfl T.z_isinstance (ai 0 rfl (Or.inl rfl) rfl rfl) rfl (pb (v:=.ty "tuple") rfl T.z_tuple (by decide +kernel) rfl (by decide) rfl)) aR rfl) rfl rfl (by decide) rfl))
theorem yW (T:Txt K mg t):tH P w K mg base t :=
 T.m8.okJ yG (fun vs H Q E h=>aA h) (fun cdv A outer s H vs Q E hr h=>⟨_,vZ T hr,by rw [show nN K t=rS K (gav t) nL from rfl];exact aS (N:=["_law_node_here"]) (cA T) h (by decide)⟩)
def cQ (K:Fg) (t:Adr):TS :=
 (bL (fX (b5 (tOp (fun x y=>neP.r K [x,y]) (aG (jt K) [] E0 (ab (ah 0) aB)) (aG (jt K) [] E0 (ab (ah 1) aB)))) (cI (tOp (fun x y=>ltP.r K [x,y]) (aG (jt K) [] E0 (ab (ah 0) aB)) (aG (jt K) [] E0 (ab (ah 1) aB)))) bT)
  (cI (tOp (fun x y=>DT.r K [x,y]) (ah 0) (ah 1))))
theorem jz (T:Txt K mg t) (G_sort:tH P w K mg base t) (hr:cp 1 (A.deeper (envOfC "_law_node_before" (aa aq) s.heap.objs.size t.bW cdv))):JSs (fm CX0 P w K mg base ["_law_one", "_law_other"] "_law_node_before" (aa aq) t.bW cdv A outer s H E).nox (ae aq) (cQ K t):=by
 unfold cQ;refine bP ?_ ?_
 ·refine iA ?_ ?_ ?_
  ·exact (cE (jI hr.units) (aJ G_sort (hr.mono (by omega)) rfl T.pY T.m8.kp T.p7 .nil aI (eA (ai 0 rfl (Or.inl rfl) rfl rfl) aR rfl) rfl rfl rfl) (aJ G_sort (hr.mono (by omega)) rfl T.pY T.m8.kp T.p7 .nil aI (eA (ai 1 rfl (Or.inl rfl) rfl rfl) aR rfl) rfl rfl rfl) (aY _))
  ·refine b7 ?_;exact (cK (vK jU (aJ G_sort (hr.mono (by omega)) rfl T.pY T.m8.kp T.p7 .nil aI (eA (ai 0 rfl (Or.inl rfl) rfl rfl) aR rfl) rfl rfl rfl) (aJ G_sort (hr.mono (by omega)) rfl T.pY T.m8.kp T.p7 .nil aI (eA (ai 1 rfl (Or.inl rfl) rfl rfl) aR rfl) rfl rfl rfl) (aY _)))
  ·exact iz
 ·refine b7 ?_;exact (cK (vK (zt hr.AH) (ai 0 rfl (Or.inl rfl) rfl rfl) (ai 1 rfl (Or.inl rfl) rfl rfl) (aY _)))
theorem jX (T:Txt K mg t) (G_sort:tH P w K mg base t):dM P w K mg base t :=
 T.gb.okJ j9 (fun vs H Q E h=>aA h) (fun cdv A outer s H vs Q E hr h=>⟨_,jz T G_sort hr,by rw [show cQ K t=rS K (gav t) cP from rfl];exact aS (N:=["_law_one", "_law_other"]) (cA T) h (by decide)⟩)
def jB (K:Fg) (t:Adr):TS :=
 (bL (fX (b5 (tOp (fun x y=>neP.r K [x,y]) (tOp (fun x y=>ixP.r K [x,y]) (ah 0) (tC (.int 0))) (tOp (fun x y=>ixP.r K [x,y]) (ah 1) (tC (.int 0))))) (cI (tOp (fun x y=>ltP.r K [x,y]) (tOp (fun x y=>ixP.r K [x,y]) (ah 0) (tC (.int 0))) (tOp (fun x y=>ixP.r K [x,y]) (ah 1) (tC (.int 0))))) bT)
  (bL (fX (b5 (tOp (fun x y=>neP.r K [x,y]) (tOp (fun x y=>ixP.r K [x,y]) (ah 0) (tC (.int 1))) (tOp (fun x y=>ixP.r K [x,y]) (ah 1) (tC (.int 1))))) (cI (tOp (fun x y=>ltP.r K [x,y]) (tOp (fun x y=>ixP.r K [x,y]) (ah 0) (tC (.int 1))) (tOp (fun x y=>ixP.r K [x,y]) (ah 1) (tC (.int 1))))) bT)
  (cI (aG (fj K) [] E0 (ab (tOp (fun x y=>ixP.r K [x,y]) (ah 0) (tC (.int 2))) (ab (tOp (fun x y=>ixP.r K [x,y]) (ah 1) (tC (.int 2))) aB))))))
theorem rl (T:Txt K mg t) (G_node_before:dM P w K mg base t) (hr:cp 2 (A.deeper (envOfC "_law_before" (aa aU) s.heap.objs.size t.fQ cdv))):JSs (fm CX0 P w K mg base ["_law_one", "_law_other"] "_law_before" (aa aU) t.fQ cdv A outer s H E).nox (ae aU) (jB K t):=by
 unfold jB;refine bP ?_ ?_
 ·refine iA ?_ ?_ ?_
  ·exact (cE (jI hr.units) (eIx aQ (ai 0 rfl (Or.inl rfl) rfl rfl) bb (fun _ _=>rfl)) (eIx aQ (ai 1 rfl (Or.inl rfl) rfl rfl) bb (fun _ _=>rfl)) (aY _))
  ·refine b7 ?_;exact (cK (vK jU (eIx aQ (ai 0 rfl (Or.inl rfl) rfl rfl) bb (fun _ _=>rfl)) (eIx aQ (ai 1 rfl (Or.inl rfl) rfl rfl) bb (fun _ _=>rfl)) (aY _)))
  ·exact iz
 ·refine bP ?_ ?_
  ·refine iA ?_ ?_ ?_
   ·exact (cE (jI hr.units) (eIx aQ (ai 0 rfl (Or.inl rfl) rfl rfl) bb (fun _ _=>rfl)) (eIx aQ (ai 1 rfl (Or.inl rfl) rfl rfl) bb (fun _ _=>rfl)) (aY _))
   ·refine b7 ?_;exact (cK (vK jU (eIx aQ (ai 0 rfl (Or.inl rfl) rfl rfl) bb (fun _ _=>rfl)) (eIx aQ (ai 1 rfl (Or.inl rfl) rfl rfl) bb (fun _ _=>rfl)) (aY _)))
   ·exact iz
  ·refine b7 ?_;exact (cK (aJ G_node_before (hr.mono (by omega)) rfl T.lJ T.gb.kp T.lq .nil aI (eA (eIx aQ (ai 0 rfl (Or.inl rfl) rfl rfl) bb (fun _ _=>rfl)) (eA (eIx aQ (ai 1 rfl (Or.inl rfl) rfl rfl) bb (fun _ _=>rfl)) aR rfl) rfl) rfl rfl rfl))
theorem sL (T:Txt K mg t) (G_node_before:dM P w K mg base t):kL P w K mg base t :=
 T.o4.okJ u6 (fun vs H Q E h=>aA h) (fun cdv A outer s H vs Q E hr h=>⟨_,rl T G_node_before hr,by rw [show jB K t=rS K (gav t) jj from rfl];exact aS (N:=["_law_one", "_law_other"]) (cA T) h (by decide)⟩)
def lC (K:Fg) (t:Adr):TS :=
 (bL (dW pj (aW 2))
  (bL (we (qO K (ah 1)) (aW 3) (qm K (ah 2) (ah 3) (tC (.bl true))))
  (bL (fX (tOr (ql (tB (tCB ((iD "tuple").r K) (ab (ah 0) aB)))) (b5 (tOp (fun x y=>neP.r K [x,y]) (tCB (dZ.r K) (ab (ah 0) aB)) (tCB (zr.r K) (ab (ah 2) aB))))) (cI (tC (.bl false))) bT)
  (bL (we (ma (ab (tCB (dZ.r K) (ab (ah 0) aB)) aB)) (aW 4) (bL (fX (tOr (ql (tB (tCB ((iD "tuple").r K) (ab (tOp (fun x y=>ixP.r K [x,y]) (ah 0) (ah 4)) aB)))) (tOr (tB (tOp (fun x y=>(Dr true).r K [x,y]) (tOp (fun x y=>ixP.r K [x,y]) (ah 0) (ah 4)) (ah 2))) (tB (tCB ((iD "bool").r K) (ab (tOp (fun x y=>ixP.r K [x,y]) (tOp (fun x y=>ixP.r K [x,y]) (ah 0) (ah 4)) (tC (.int 2))) aB))))) (cI (tC (.bl false))) bT)
  (fX (AM (b5 (tOp (fun x y=>gtP.r K [x,y]) (ah 4) (tC (.int 0)))) (ql (tB (aG (nB K) [] E0 (ab (tOp (fun x y=>ixP.r K [x,y]) (ah 0) (tOp (fun x y=>wN.r K [x,y]) (ah 4) (tC (.int 1)))) (ab (tOp (fun x y=>ixP.r K [x,y]) (ah 0) (ah 4)) aB)))))) (cI (tC (.bl false))) bT)))
  (cI (tC (.bl true)))))))
theorem sg (T:Txt K mg t) (G_before:kL P w K mg base t) (hr:cp 3 (A.deeper (envOfC "_law_right" (aa bo) s.heap.objs.size t.jK cdv))):JSs (fm CX0 P w K mg base ["_law_found", "_law_facts_here", "_law_known", "_law_fact", "_law_k"] "_law_right" (aa bo) t.jK cdv A outer s H E).nox (ae bo) (lC K t):=by
 unfold lC;refine bP ?_ ?_
 ·refine fP (i:=2) ?_ iU.nd rfl (Or.inl rfl) rfl (Or.inl rfl);exact BY
 ·refine bP ?_ ?_
  ·refine AJ ?_ (eGN (i:=3) iU.nd rfl (Or.inl rfl) (Or.inl rfl)) ?_ K1 rfl (fun _=>rfl)
   ·exact (eIL (ai 1 rfl (Or.inl rfl) rfl rfl))
   ·refine b7 ?_;exact (se hr.units (ai 2 rfl (Or.inl rfl) rfl rfl) (ai 3 rfl (Or.inl rfl) rfl rfl) eBl rfl)
  ·refine bP ?_ ?_
   ·refine iA ?_ ?_ ?_
    ·exact (eW (vA (j7 (qJ (rp rfl T.z_isinstance (ai 0 rfl (Or.inl rfl) rfl rfl) rfl (pb (v:=.ty "tuple") rfl T.z_tuple (by decide +kernel) rfl (by decide) rfl)) (fun _=>rfl))) (m5 (cE (jI hr.units) (eB bI rfl T.z_len (by decide +kernel) (eA (ai 0 rfl (Or.inl rfl) rfl rfl) aR rfl) rfl rfl (by decide) rfl) (eB vD rfl T.z_len (by decide +kernel) (eA (ai 2 rfl (Or.inl rfl) rfl rfl) aR rfl) rfl rfl (by decide) rfl) (aY _)))))
    ·refine b7 ?_;exact (cK eBl)
    ·exact iz
   ·refine bP ?_ ?_
    ·refine AJ ?_ (eGN (i:=4) iU.nd rfl (Or.inl rfl) (Or.inl rfl)) ?_ K1 rfl (fun _=>rfl)
     ·exact (eR1 rfl T.z_range (eA (eB bI rfl T.z_len (by decide +kernel) (eA (ai 0 rfl (Or.inl rfl) rfl rfl) aR rfl) rfl rfl (by decide) rfl) aR rfl) rfl)
     ·refine bP ?_ ?_
      ·refine iA ?_ ?_ ?_
       ·exact (eW (vA (j7 (qJ (rp rfl T.z_isinstance (eIx aQ (ai 0 rfl (Or.inl rfl) rfl rfl) (ai 4 rfl (Or.inl rfl) rfl rfl) (fun _ _=>rfl)) rfl (pb (v:=.ty "tuple") rfl T.z_tuple (by decide +kernel) rfl (by decide) rfl)) (fun _=>rfl))) (vA (wy hr.units (eIx aQ (ai 0 rfl (Or.inl rfl) rfl rfl) (ai 4 rfl (Or.inl rfl) rfl rfl) (fun _ _=>rfl)) (ai 2 rfl (Or.inl rfl) rfl rfl) (by with_unfolding_all rfl)) (m5 (qJ (rp rfl T.z_isinstance (eIx aQ (eIx aQ (ai 0 rfl (Or.inl rfl) rfl rfl) (ai 4 rfl (Or.inl rfl) rfl rfl) (fun _ _=>rfl)) bb (fun _ _=>rfl)) rfl (pb (v:=.ty "bool") rfl T.z_bool (by decide +kernel) rfl (by decide) rfl)) (fun _=>rfl))))))
       ·refine b7 ?_;exact (cK eBl)
       ·exact iz
      ·refine b7 ?_;refine iA ?_ ?_ ?_
       ·exact (eW (Dg (cE pA (ai 4 rfl (Or.inl rfl) rfl rfl) bb (aY _)) (ya (j7 (qJ (aJ G_before (hr.mono (by omega)) rfl T.v3 T.o4.kp T.wc .nil aI (eA (eIx aQ (ai 0 rfl (Or.inl rfl) rfl rfl) (eOp kQ (ai 4 rfl (Or.inl rfl) rfl rfl) bb) (fun _ _=>rfl)) (eA (eIx aQ (ai 0 rfl (Or.inl rfl) rfl rfl) (ai 4 rfl (Or.inl rfl) rfl rfl) (fun _ _=>rfl)) aR rfl) rfl) rfl rfl rfl) (fun _=>rfl))))))
       ·refine b7 ?_;exact (cK eBl)
       ·exact iz
    ·refine b7 ?_;exact (cK eBl)
theorem wC (T:Txt K mg t) (G_before:kL P w K mg base t):ow P w K mg base t :=
 T.oN.okJ iU (fun vs H Q E h=>aA h) (fun cdv A outer s H vs Q E hr h=>⟨_,sg T G_before hr,by rw [show lC K t=rS K (gav t) lO from rfl];exact aS (N:=["_law_found", "_law_facts_here", "_law_known", "_law_fact", "_law_k"]) (cA T) h (by decide)⟩)
def rZ (K:Fg) (t:Adr):TS :=
 (bL (dW (aG (xJ K) [] E0 (ab (ah 0) aB)) (aW 1))
  (bL (dW (aG (qi K) [] E0 (ab (ah 1) aB)) (aW 2))
  (bL (fX (b5 (tOp (fun x y=>eqP.r K [x,y]) (aG (aZ K) [] E0 (ab (ah 1) (ab (tC (.int 8)) aB))) (tC (.int 0)))) (bL (dW (aG (fT K) [] E0 (ab (ah 1) aB)) (aW 2))
  (dW (tOp (fun x y=>il.r K [x,y]) (ah 2) (j4 [2,1] (ma (ab (aG (aZ K) [] E0 (ab (ah 1) (ab (tC (.int 4)) aB))) aB)) xp (tOp (fun x y=>ixP.r K [x,y]) (ah 1) (aG (aZ K) [] E0 (ab (ah 2) (ab (tCB (dZ.r K) (ab (ah 1) aB)) aB)))))) (aW 2))) bT)
  (bL (dW (tCB (zN.r K) (ab (ah 2) aB)) (aW 3))
  (bL (dW (aG (cZ K) [] E0 (ab (ah 3) aB)) (aW 4))
  (bL (fX (tOr (b5 (tOp (fun x y=>neP.r K [x,y]) (ah 3) (ah 2))) (ql (tB (aG (lD K) [] E0 (ab (ah 4) (ab (ah 2) aB)))))) (cI (tC (.bl false))) bT)
  (bL (qN (ET K "list" (Hr.r K) (ah 3)))
  (bL (fX (tOr (ql (tB (aG (lD K) [] E0 (ab (ah 4) (ab (ah 2) aB))))) (b5 (tOp (fun x y=>neP.r K [x,y]) (aG (cZ K) [] E0 (ab (ah 3) aB)) (rm aB)))) (cI (tC (.bl false))) bT)
  (cI (jE (tOp (fun x y=>eqP.r K [x,y]) (aG (cZ K) [] E0 (ab (EI K (ah 2) jL jL (vH (tUn (rU fun i=>.int (-i)) (tC (.int 1))))) aB)) (ah 4)) (jE (tOp (fun x y=>eqP.r K [x,y]) (aG (cZ K) [] E0 (ab (tCB (ng.r K) (ab (ah 2) aB)) aB)) (ah 4)) (tOp (fun x y=>eqP.r K [x,y]) (aG (cZ K) [] E0 (ab (ah 4) aB)) (ah 4)))))))))))))
theorem y7 (T:Txt K mg t) (G_pen:zC P w K mg base t) (G_facts:oZ P w K mg base t) (G_take:cV P w K mg base t) (G_many_facts:e8 P w K mg base t) (G_web_of:kW P w K mg base t) (G_right:ow P w K mg base t) (hr:cp 7 (A.deeper (envOfC "law" (aa bV) s.heap.objs.size t.m4 cdv))):JSs (fm CX0 P w K mg base ["_law_script", "_law_pen_here", "_law_facts_here", "_law_handed", "_law_web"] "law" (aa bV) t.m4 cdv A outer s H E).nox (ae bV) (rZ K t):=by
 unfold rZ;refine bP ?_ ?_
 ·refine fP (i:=1) ?_ jS.nd rfl (Or.inr rfl) rfl (Or.inl rfl);exact (aJ G_pen (hr.mono (by omega)) rfl T.FC T.CJ.kp T.GN .nil aI (eA (ai 0 rfl (Or.inl rfl) rfl rfl) aR rfl) rfl rfl rfl)
 ·refine bP ?_ ?_
  ·refine fP (i:=2) ?_ jS.nd rfl (Or.inr rfl) rfl (Or.inl rfl);exact (aJ G_facts (hr.mono (by omega)) rfl T.zG T.tu.kp T.yV .nil aI (eA (ai 1 rfl (Or.inr (Or.inl rfl)) rfl rfl) aR rfl) rfl rfl rfl)
  ·refine bP ?_ ?_
   ·refine iA ?_ ?_ ?_
    ·exact (cE (eZ hr.units) (aJ G_take (hr.mono (by omega)) rfl T.bK T.bF.kp T.bJ .nil aI (eA (ai 1 rfl (Or.inr (Or.inl rfl)) rfl rfl) (eA bb aR rfl) rfl) rfl rfl rfl) bb (aY _))
    ·refine bP ?_ ?_
     ·refine fP (i:=2) ?_ jS.nd rfl (Or.inr rfl) rfl (Or.inl rfl);exact (aJ G_many_facts (hr.mono (by omega)) rfl T.mX T.ix.kp T.mR .nil aI (eA (ai 1 rfl (Or.inr (Or.inl rfl)) rfl rfl) aR rfl) rfl rfl rfl)
     ·refine b7 ?_;refine fP (i:=2) ?_ jS.nd rfl (Or.inr rfl) rfl (Or.inl rfl);exact (eOp cw (ai 2 rfl (Or.inr (Or.inl rfl)) rfl rfl) (wU ["_law_facts_here", "_law_pen_here"] (eR1 rfl T.z_range (eA (aJ G_take (hr.mono (by omega)) rfl T.bK T.bF.kp T.bJ .nil aI (eA (ai 1 rfl (Or.inr (Or.inl rfl)) rfl rfl) (eA bb aR rfl) rfl) rfl rfl rfl) aR rfl) rfl) eT0 (eC fun _ _ _ _=>(eIx aQ (ai 1 rfl (Or.inr (Or.inl rfl)) rfl rfl) (aJ G_take (hr.mono (by omega)) rfl T.bK T.bF.kp T.bJ .nil aI (eA (ai 2 rfl (Or.inr (Or.inl rfl)) rfl rfl) (eA (eB bI rfl T.z_len (by decide +kernel) (eA (ai 1 rfl (Or.inr (Or.inl rfl)) rfl rfl) aR rfl) rfl rfl (by decide) rfl) aR rfl) rfl) rfl rfl rfl) (fun _ _=>rfl))) rfl (bsc (sc:=aa bV) rfl (by decide +kernel)) (by decide +kernel) ⟨rfl,⟨rfl,rfl⟩,⟨rfl,⟨rfl,rfl⟩,trivial⟩⟩ (fun _=>rfl)))
    ·exact iz
   ·refine bP ?_ ?_
    ·refine fP (i:=3) ?_ jS.nd rfl (Or.inl rfl) rfl (Or.inl rfl);exact (eTy (wg rfl) rfl T.z_list (by decide +kernel) (eA (ai 2 rfl (Or.inr (Or.inl rfl)) rfl rfl) aR rfl) rfl rfl (by decide) rfl)
    ·refine bP ?_ ?_
     ·refine fP (i:=4) ?_ jS.nd rfl (Or.inl rfl) rfl (Or.inl rfl);exact (aJ G_web_of (hr.mono (by omega)) rfl T.fZ T.fe.kp T.gu .nil aI (eA (ai 3 rfl (Or.inl rfl) rfl rfl) aR rfl) rfl rfl rfl)
     ·refine bP ?_ ?_
      ·refine iA ?_ ?_ ?_
       ·exact (eW (vA (cE (jI hr.units) (ai 3 rfl (Or.inl rfl) rfl rfl) (ai 2 rfl (Or.inr (Or.inl rfl)) rfl rfl) (aY _)) (m5 (j7 (qJ (aJ G_right (hr.mono (by omega)) rfl T.ur T.oN.kp T.tV .nil aI (eA (ai 4 rfl (Or.inl rfl) rfl rfl) (eA (ai 2 rfl (Or.inr (Or.inl rfl)) rfl rfl) aR rfl) rfl) rfl rfl rfl) (fun _=>rfl))))))
       ·refine b7 ?_;exact (cK eBl)
       ·exact iz
      ·refine bP ?_ ?_
       ·exact (yr (HF (ai 3 rfl (Or.inl rfl) rfl rfl) wY PySem.F.plainAttrs_list PySem.F.slot_list_clear PySem.F.type_list_clear rfl rfl) rfl)
       ·refine bP ?_ ?_
        ·refine iA ?_ ?_ ?_
         ·exact (eW (vA (j7 (qJ (aJ G_right (hr.mono (by omega)) rfl T.ur T.oN.kp T.tV .nil aI (eA (ai 4 rfl (Or.inl rfl) rfl rfl) (eA (ai 2 rfl (Or.inr (Or.inl rfl)) rfl rfl) aR rfl) rfl) rfl rfl rfl) (fun _=>rfl))) (m5 (cE (jI hr.units) (aJ G_web_of (hr.mono (by omega)) rfl T.fZ T.fe.kp T.gu .nil aI (eA (ai 3 rfl (Or.inl rfl) rfl rfl) aR rfl) rfl rfl rfl) (vz aR) (aY _)))))
         ·refine b7 ?_;exact (cK eBl)
         ·exact iz
        ·refine b7 ?_;exact (cK (xZ (vK (eZ hr.units) (aJ G_web_of (hr.mono (by omega)) rfl T.fZ T.fe.kp T.gu .nil aI (eA (Io (ai 2 rfl (Or.inr (Or.inl rfl)) rfl rfl) D3 D3 (eP (eUn xH bb))) aR rfl) rfl rfl rfl) (ai 4 rfl (Or.inl rfl) rfl rfl) (aY _)) (xZ (vK (eZ hr.units) (aJ G_web_of (hr.mono (by omega)) rfl T.fZ T.fe.kp T.gu .nil aI (eA (eTy ml rfl T.z_tuple (by decide +kernel) (eA (ai 2 rfl (Or.inr (Or.inl rfl)) rfl rfl) aR rfl) rfl rfl (by decide) rfl) aR rfl) rfl rfl rfl) (ai 4 rfl (Or.inl rfl) rfl rfl) (aY _)) (Ae (vK (eZ hr.units) (aJ G_web_of (hr.mono (by omega)) rfl T.fZ T.fe.kp T.gu .nil aI (eA (ai 4 rfl (Or.inl rfl) rfl rfl) aR rfl) rfl rfl rfl) (ai 4 rfl (Or.inl rfl) rfl rfl) (aY _))))))
theorem Cj (T:Txt K mg t) (G_pen:zC P w K mg base t) (G_facts:oZ P w K mg base t) (G_take:cV P w K mg base t) (G_many_facts:e8 P w K mg base t) (G_web_of:kW P w K mg base t) (G_right:ow P w K mg base t):Fh P w K mg base t :=
 T.Gn.okJ jS (fun vs H Q E h=>aA h) (fun cdv A outer s H vs Q E hr h=>⟨_,y7 T G_pen G_facts G_take G_many_facts G_web_of G_right hr,by rw [show rZ K t=rS K (gav t) sd from rfl];exact aS (N:=["_law_script", "_law_pen_here", "_law_facts_here", "_law_handed", "_law_web"]) (cA T) h (by decide)⟩)
end
theorem CI {P:Program} {w:World} {K:Fg} {mg:Str->Option Value} {base:Heap} {t:Adr} (T:Txt K mg t):dU P w K mg base CX0 8 t.m4 t.oJ ["_law_script"] (uH K):=by
 have h_pen:=Ca (P:=P) (w:=w) (base:=base) T;have h_take:=zA (P:=P) (w:=w) (base:=base) T;have h_word:=z6 (P:=P) (w:=w) (base:=base) T h_take;have h_words:=wo (P:=P) (w:=w) (base:=base) T h_take h_word;have h_node:=zR (P:=P) (w:=w) (base:=base) T h_take h_word;have h_facts:=wA (P:=P) (w:=w) (base:=base) T h_words h_take h_node;have h_many_facts:=kJ (P:=P) (w:=w) (base:=base) T h_take;have h_are_letters:=j0 (P:=P) (w:=w) (base:=base) T;have h_is_name:=qy (P:=P) (w:=w) (base:=base) T h_are_letters;have h_is_whole:=nK (P:=P) (w:=w) (base:=base) T;have h_is_number:=nA (P:=P) (w:=w) (base:=base) T h_is_whole;have h_is_said:=qY (P:=P) (w:=w) (base:=base) T h_are_letters;have h_is_node:=rd (P:=P) (w:=w) (base:=base) T h_is_name h_is_number h_is_said;have h_is_fact:=qQ (P:=P) (w:=w) (base:=base) T h_is_name h_is_node;have h_are_facts:=lY (P:=P) (w:=w) (base:=base) T h_is_fact;have h_kind_of:=qj (P:=P) (w:=w) (base:=base) T;have h_node_key:=oz (P:=P) (w:=w) (base:=base) T h_kind_of;have h_fact_key:=oH (P:=P) (w:=w) (base:=base) T h_node_key;have h_facts_in_order:=gC (P:=P) (w:=w) (base:=base) T h_fact_key;have h_web_of:=rB (P:=P) (w:=w) (base:=base) T h_are_facts h_facts_in_order;have h_sort:=yW (P:=P) (w:=w) (base:=base) T;have h_node_before:=jX (P:=P) (w:=w) (base:=base) T h_sort;have h_before:=sL (P:=P) (w:=w) (base:=base) T h_node_before;have h_right:=wC (P:=P) (w:=w) (base:=base) T h_before;have h_law:=Cj (P:=P) (w:=w) (base:=base) T h_pen h_facts h_take h_many_facts h_web_of h_right;exact h_law
theorem BW {K:Fg} {h:Heap} {mg:Str->Option Value} (X:K.In h) (G:h.Ns mainGlobals mg)
  {f0:Addr} {od0 an0:Option Addr} {sl0:Array (Option Value)} {oc0 kV0 dc0 pm0 cd0 ct0:Value}
  (a0:PySem.W.nsIn K mainGlobals "are_letters" = some (some (.ref f0))) (l0:K.lookup f0=some ⟨oc0,od0,.func (PySem.W.fnOf "are_letters" "are_letters" (af aj) (ae aj) (aa aj) .none kV0 dc0 pm0 an0 cd0 ct0),sl0⟩) (c0:PySem.W.codeIn K cd0 "are_letters" = true) (k0:PySem.W.keepIn K (.ref f0)=true)
  {f1:Addr} {od1 an1:Option Addr} {sl1:Array (Option Value)} {oc1 kV1 dc1 pm1 cd1 ct1:Value}
  (a1:PySem.W.nsIn K mainGlobals "is_name" = some (some (.ref f1))) (l1:K.lookup f1=some ⟨oc1,od1,.func (PySem.W.fnOf "is_name" "is_name" (af aL) (ae aL) (aa aL) .none kV1 dc1 pm1 an1 cd1 ct1),sl1⟩) (c1:PySem.W.codeIn K cd1 "is_name" = true) (k1:PySem.W.keepIn K (.ref f1)=true)
  {f2:Addr} {od2 an2:Option Addr} {sl2:Array (Option Value)} {oc2 kV2 dc2 pm2 cd2 ct2:Value}
  (a2:PySem.W.nsIn K mainGlobals "is_whole" = some (some (.ref f2))) (l2:K.lookup f2=some ⟨oc2,od2,.func (PySem.W.fnOf "is_whole" "is_whole" (af aC) (ae aC) (aa aC) .none kV2 dc2 pm2 an2 cd2 ct2),sl2⟩) (c2:PySem.W.codeIn K cd2 "is_whole" = true) (k2:PySem.W.keepIn K (.ref f2)=true)
  {f3:Addr} {od3 an3:Option Addr} {sl3:Array (Option Value)} {oc3 kV3 dc3 pm3 cd3 ct3:Value}
  (a3:PySem.W.nsIn K mainGlobals "is_number" = some (some (.ref f3))) (l3:K.lookup f3=some ⟨oc3,od3,.func (PySem.W.fnOf "is_number" "is_number" (af az) (ae az) (aa az) .none kV3 dc3 pm3 an3 cd3 ct3),sl3⟩) (c3:PySem.W.codeIn K cd3 "is_number" = true) (k3:PySem.W.keepIn K (.ref f3)=true)
  {f4:Addr} {od4 an4:Option Addr} {sl4:Array (Option Value)} {oc4 kV4 dc4 pm4 cd4 ct4:Value}
  (a4:PySem.W.nsIn K mainGlobals "is_said" = some (some (.ref f4))) (l4:K.lookup f4=some ⟨oc4,od4,.func (PySem.W.fnOf "is_said" "is_said" (af aO) (ae aO) (aa aO) .none kV4 dc4 pm4 an4 cd4 ct4),sl4⟩) (c4:PySem.W.codeIn K cd4 "is_said" = true) (k4:PySem.W.keepIn K (.ref f4)=true)
  {f5:Addr} {od5 an5:Option Addr} {sl5:Array (Option Value)} {oc5 kV5 dc5 pm5 cd5 ct5:Value}
  (a5:PySem.W.nsIn K mainGlobals "is_node" = some (some (.ref f5))) (l5:K.lookup f5=some ⟨oc5,od5,.func (PySem.W.fnOf "is_node" "is_node" (af aK) (ae aK) (aa aK) .none kV5 dc5 pm5 an5 cd5 ct5),sl5⟩) (c5:PySem.W.codeIn K cd5 "is_node" = true) (k5:PySem.W.keepIn K (.ref f5)=true)
  {f6:Addr} {od6 an6:Option Addr} {sl6:Array (Option Value)} {oc6 kV6 dc6 pm6 cd6 ct6:Value}
  (a6:PySem.W.nsIn K mainGlobals "kind_of" = some (some (.ref f6))) (l6:K.lookup f6=some ⟨oc6,od6,.func (PySem.W.fnOf "kind_of" "kind_of" (af aP) (ae aP) (aa aP) .none kV6 dc6 pm6 an6 cd6 ct6),sl6⟩) (c6:PySem.W.codeIn K cd6 "kind_of" = true) (k6:PySem.W.keepIn K (.ref f6)=true)
  {f7:Addr} {od7 an7:Option Addr} {sl7:Array (Option Value)} {oc7 kV7 dc7 pm7 cd7 ct7:Value}
  (a7:PySem.W.nsIn K mainGlobals "node_key" = some (some (.ref f7))) (l7:K.lookup f7=some ⟨oc7,od7,.func (PySem.W.fnOf "node_key" "node_key" (af aD) (ae aD) (aa aD) .none kV7 dc7 pm7 an7 cd7 ct7),sl7⟩) (c7:PySem.W.codeIn K cd7 "node_key" = true) (k7:PySem.W.keepIn K (.ref f7)=true)
  {f8:Addr} {od8 an8:Option Addr} {sl8:Array (Option Value)} {oc8 kV8 dc8 pm8 cd8 ct8:Value}
  (a8:PySem.W.nsIn K mainGlobals "is_fact" = some (some (.ref f8))) (l8:K.lookup f8=some ⟨oc8,od8,.func (PySem.W.fnOf "is_fact" "is_fact" (af aN) (ae aN) (aa aN) .none kV8 dc8 pm8 an8 cd8 ct8),sl8⟩) (c8:PySem.W.codeIn K cd8 "is_fact" = true) (k8:PySem.W.keepIn K (.ref f8)=true)
  {f9:Addr} {od9 an9:Option Addr} {sl9:Array (Option Value)} {oc9 kV9 dc9 pm9 cd9 ct9:Value}
  (a9:PySem.W.nsIn K mainGlobals "fact_key" = some (some (.ref f9))) (l9:K.lookup f9=some ⟨oc9,od9,.func (PySem.W.fnOf "fact_key" "fact_key" (af aE) (ae aE) (aa aE) .none kV9 dc9 pm9 an9 cd9 ct9),sl9⟩) (c9:PySem.W.codeIn K cd9 "fact_key" = true) (k9:PySem.W.keepIn K (.ref f9)=true)
  {f10:Addr} {od10 an10:Option Addr} {sl10:Array (Option Value)} {oc10 kV10 dc10 pm10 cd10 ct10:Value}
  (a10:PySem.W.nsIn K mainGlobals "facts_in_order" = some (some (.ref f10))) (l10:K.lookup f10=some ⟨oc10,od10,.func (PySem.W.fnOf "facts_in_order" "facts_in_order" (af ag) (ae ag) (aa ag) .none kV10 dc10 pm10 an10 cd10 ct10),sl10⟩) (c10:PySem.W.codeIn K cd10 "facts_in_order" = true) (k10:PySem.W.keepIn K (.ref f10)=true)
  {f11:Addr} {od11 an11:Option Addr} {sl11:Array (Option Value)} {oc11 kV11 dc11 pm11 cd11 ct11:Value}
  (a11:PySem.W.nsIn K mainGlobals "are_facts" = some (some (.ref f11))) (l11:K.lookup f11=some ⟨oc11,od11,.func (PySem.W.fnOf "are_facts" "are_facts" (af aw) (ae aw) (aa aw) .none kV11 dc11 pm11 an11 cd11 ct11),sl11⟩) (c11:PySem.W.codeIn K cd11 "are_facts" = true) (k11:PySem.W.keepIn K (.ref f11)=true)
  {f12:Addr} {od12 an12:Option Addr} {sl12:Array (Option Value)} {oc12 kV12 dc12 pm12 cd12 ct12:Value}
  (a12:PySem.W.nsIn K mainGlobals "web_of" = some (some (.ref f12))) (l12:K.lookup f12=some ⟨oc12,od12,.func (PySem.W.fnOf "web_of" "web_of" (af aV) (ae aV) (aa aV) .none kV12 dc12 pm12 an12 cd12 ct12),sl12⟩) (c12:PySem.W.codeIn K cd12 "web_of" = true) (k12:PySem.W.keepIn K (.ref f12)=true)
  {f13:Addr} {od13 an13:Option Addr} {sl13:Array (Option Value)} {oc13 kV13 dc13 pm13 cd13 ct13:Value}
  (a13:PySem.W.nsIn K mainGlobals "_law_pen" = some (some (.ref f13))) (l13:K.lookup f13=some ⟨oc13,od13,.func (PySem.W.fnOf "_law_pen" "_law_pen" (af cj) (ae cj) (aa cj) .none kV13 dc13 pm13 an13 cd13 ct13),sl13⟩) (c13:PySem.W.codeIn K cd13 "_law_pen" = true) (k13:PySem.W.keepIn K (.ref f13)=true)
  {f14:Addr} {od14 an14:Option Addr} {sl14:Array (Option Value)} {oc14 kV14 dc14 pm14 cd14 ct14:Value}
  (a14:PySem.W.nsIn K mainGlobals "_law_take" = some (some (.ref f14))) (l14:K.lookup f14=some ⟨oc14,od14,.func (PySem.W.fnOf "_law_take" "_law_take" (af bD) (ae bD) (aa bD) .none kV14 dc14 pm14 an14 cd14 ct14),sl14⟩) (c14:PySem.W.codeIn K cd14 "_law_take" = true) (k14:PySem.W.keepIn K (.ref f14)=true)
  {f15:Addr} {od15 an15:Option Addr} {sl15:Array (Option Value)} {oc15 kV15 dc15 pm15 cd15 ct15:Value}
  (a15:PySem.W.nsIn K mainGlobals "_law_word" = some (some (.ref f15))) (l15:K.lookup f15=some ⟨oc15,od15,.func (PySem.W.fnOf "_law_word" "_law_word" (af bC) (ae bC) (aa bC) .none kV15 dc15 pm15 an15 cd15 ct15),sl15⟩) (c15:PySem.W.codeIn K cd15 "_law_word" = true) (k15:PySem.W.keepIn K (.ref f15)=true)
  {f16:Addr} {od16 an16:Option Addr} {sl16:Array (Option Value)} {oc16 kV16 dc16 pm16 cd16 ct16:Value}
  (a16:PySem.W.nsIn K mainGlobals "_law_words" = some (some (.ref f16))) (l16:K.lookup f16=some ⟨oc16,od16,.func (PySem.W.fnOf "_law_words" "_law_words" (af bg) (ae bg) (aa bg) .none kV16 dc16 pm16 an16 cd16 ct16),sl16⟩) (c16:PySem.W.codeIn K cd16 "_law_words" = true) (k16:PySem.W.keepIn K (.ref f16)=true)
  {f17:Addr} {od17 an17:Option Addr} {sl17:Array (Option Value)} {oc17 kV17 dc17 pm17 cd17 ct17:Value}
  (a17:PySem.W.nsIn K mainGlobals "_law_node" = some (some (.ref f17))) (l17:K.lookup f17=some ⟨oc17,od17,.func (PySem.W.fnOf "_law_node" "_law_node" (af bA) (ae bA) (aa bA) .none kV17 dc17 pm17 an17 cd17 ct17),sl17⟩) (c17:PySem.W.codeIn K cd17 "_law_node" = true) (k17:PySem.W.keepIn K (.ref f17)=true)
  {f18:Addr} {od18 an18:Option Addr} {sl18:Array (Option Value)} {oc18 kV18 dc18 pm18 cd18 ct18:Value}
  (a18:PySem.W.nsIn K mainGlobals "_law_facts" = some (some (.ref f18))) (l18:K.lookup f18=some ⟨oc18,od18,.func (PySem.W.fnOf "_law_facts" "_law_facts" (af bj) (ae bj) (aa bj) .none kV18 dc18 pm18 an18 cd18 ct18),sl18⟩) (c18:PySem.W.codeIn K cd18 "_law_facts" = true) (k18:PySem.W.keepIn K (.ref f18)=true)
  {f19:Addr} {od19 an19:Option Addr} {sl19:Array (Option Value)} {oc19 kV19 dc19 pm19 cd19 ct19:Value}
  (a19:PySem.W.nsIn K mainGlobals "_law_many_facts" = some (some (.ref f19))) (l19:K.lookup f19=some ⟨oc19,od19,.func (PySem.W.fnOf "_law_many_facts" "_law_many_facts" (af ao) (ae ao) (aa ao) .none kV19 dc19 pm19 an19 cd19 ct19),sl19⟩) (c19:PySem.W.codeIn K cd19 "_law_many_facts" = true) (k19:PySem.W.keepIn K (.ref f19)=true)
  {f20:Addr} {od20 an20:Option Addr} {sl20:Array (Option Value)} {oc20 kV20 dc20 pm20 cd20 ct20:Value}
  (a20:PySem.W.nsIn K mainGlobals "_law_sort" = some (some (.ref f20))) (l20:K.lookup f20=some ⟨oc20,od20,.func (PySem.W.fnOf "_law_sort" "_law_sort" (af bz) (ae bz) (aa bz) .none kV20 dc20 pm20 an20 cd20 ct20),sl20⟩) (c20:PySem.W.codeIn K cd20 "_law_sort" = true) (k20:PySem.W.keepIn K (.ref f20)=true)
  {f21:Addr} {od21 an21:Option Addr} {sl21:Array (Option Value)} {oc21 kV21 dc21 pm21 cd21 ct21:Value}
  (a21:PySem.W.nsIn K mainGlobals "_law_node_before" = some (some (.ref f21))) (l21:K.lookup f21=some ⟨oc21,od21,.func (PySem.W.fnOf "_law_node_before" "_law_node_before" (af aq) (ae aq) (aa aq) .none kV21 dc21 pm21 an21 cd21 ct21),sl21⟩) (c21:PySem.W.codeIn K cd21 "_law_node_before" = true) (k21:PySem.W.keepIn K (.ref f21)=true)
  {f22:Addr} {od22 an22:Option Addr} {sl22:Array (Option Value)} {oc22 kV22 dc22 pm22 cd22 ct22:Value}
  (a22:PySem.W.nsIn K mainGlobals "_law_before" = some (some (.ref f22))) (l22:K.lookup f22=some ⟨oc22,od22,.func (PySem.W.fnOf "_law_before" "_law_before" (af aU) (ae aU) (aa aU) .none kV22 dc22 pm22 an22 cd22 ct22),sl22⟩) (c22:PySem.W.codeIn K cd22 "_law_before" = true) (k22:PySem.W.keepIn K (.ref f22)=true)
  {f23:Addr} {od23 an23:Option Addr} {sl23:Array (Option Value)} {oc23 kV23 dc23 pm23 cd23 ct23:Value}
  (a23:PySem.W.nsIn K mainGlobals "_law_right" = some (some (.ref f23))) (l23:K.lookup f23=some ⟨oc23,od23,.func (PySem.W.fnOf "_law_right" "_law_right" (af bo) (ae bo) (aa bo) .none kV23 dc23 pm23 an23 cd23 ct23),sl23⟩) (c23:PySem.W.codeIn K cd23 "_law_right" = true) (k23:PySem.W.keepIn K (.ref f23)=true)
  {f24:Addr} {od24 an24:Option Addr} {sl24:Array (Option Value)} {oc24 kV24 dc24 pm24 cd24 ct24:Value}
  (a24:PySem.W.nsIn K mainGlobals "law" = some (some (.ref f24))) (l24:K.lookup f24=some ⟨oc24,od24,.func (PySem.W.fnOf "law" "law" (af bV) (ae bV) (aa bV) .none kV24 dc24 pm24 an24 cd24 ct24),sl24⟩) (c24:PySem.W.codeIn K cd24 "law" = true) (k24:PySem.W.keepIn K (.ref f24)=true)
  (z_abs:PySem.W.nsIn K mainGlobals "abs" = some none)
  (z_all:PySem.W.nsIn K mainGlobals "all" = some none)
  (z_bool:PySem.W.nsIn K mainGlobals "bool" = some none)
  (z_int:PySem.W.nsIn K mainGlobals "int" = some none)
  (z_isinstance:PySem.W.nsIn K mainGlobals "isinstance" = some none)
  (z_len:PySem.W.nsIn K mainGlobals "len" = some none)
  (z_list:PySem.W.nsIn K mainGlobals "list" = some none)
  (z_range:PySem.W.nsIn K mainGlobals "range" = some none)
  (z_sorted:PySem.W.nsIn K mainGlobals "sorted" = some none)
  (z_str:PySem.W.nsIn K mainGlobals "str" = some none)
  (z_tuple:PySem.W.nsIn K mainGlobals "tuple" = some none)
  {tk_GREATEST_NUMBER:Tok} (g_GREATEST_NUMBER:PySem.W.nsIn K mainGlobals "GREATEST_NUMBER" = some (some (Value.int 999999999999999999999999999999 tk_GREATEST_NUMBER)))
  {tk_MOST_FACTS:Tok} (g_MOST_FACTS:PySem.W.nsIn K mainGlobals "MOST_FACTS" = some (some (Value.int 400 tk_MOST_FACTS)))
  {tk_MOST_LETTERS:Tok} (g_MOST_LETTERS:PySem.W.nsIn K mainGlobals "MOST_LETTERS" = some (some (Value.int 8 tk_MOST_LETTERS)))
  : ∃ t:Adr,(∀ (s:Shared) (u:Value),BindsTo s t.oJ ⟨[u],[]⟩ [("_law_script", u)])/\Txt K mg t:=by
 refine ⟨⟨f0,PySem.W.fnOf "are_letters" "are_letters" (af aj) (ae aj) (aa aj) .none kV0 dc0 pm0 an0 cd0 ct0,f1,PySem.W.fnOf "is_name" "is_name" (af aL) (ae aL) (aa aL) .none kV1 dc1 pm1 an1 cd1 ct1,f2,PySem.W.fnOf "is_whole" "is_whole" (af aC) (ae aC) (aa aC) .none kV2 dc2 pm2 an2 cd2 ct2,f3,PySem.W.fnOf "is_number" "is_number" (af az) (ae az) (aa az) .none kV3 dc3 pm3 an3 cd3 ct3,f4,PySem.W.fnOf "is_said" "is_said" (af aO) (ae aO) (aa aO) .none kV4 dc4 pm4 an4 cd4 ct4,f5,PySem.W.fnOf "is_node" "is_node" (af aK) (ae aK) (aa aK) .none kV5 dc5 pm5 an5 cd5 ct5,f6,PySem.W.fnOf "kind_of" "kind_of" (af aP) (ae aP) (aa aP) .none kV6 dc6 pm6 an6 cd6 ct6,f7,PySem.W.fnOf "node_key" "node_key" (af aD) (ae aD) (aa aD) .none kV7 dc7 pm7 an7 cd7 ct7,f8,PySem.W.fnOf "is_fact" "is_fact" (af aN) (ae aN) (aa aN) .none kV8 dc8 pm8 an8 cd8 ct8,f9,PySem.W.fnOf "fact_key" "fact_key" (af aE) (ae aE) (aa aE) .none kV9 dc9 pm9 an9 cd9 ct9,f10,PySem.W.fnOf "facts_in_order" "facts_in_order" (af ag) (ae ag) (aa ag) .none kV10 dc10 pm10 an10 cd10 ct10,f11,PySem.W.fnOf "are_facts" "are_facts" (af aw) (ae aw) (aa aw) .none kV11 dc11 pm11 an11 cd11 ct11,f12,PySem.W.fnOf "web_of" "web_of" (af aV) (ae aV) (aa aV) .none kV12 dc12 pm12 an12 cd12 ct12,f13,PySem.W.fnOf "_law_pen" "_law_pen" (af cj) (ae cj) (aa cj) .none kV13 dc13 pm13 an13 cd13 ct13,f14,PySem.W.fnOf "_law_take" "_law_take" (af bD) (ae bD) (aa bD) .none kV14 dc14 pm14 an14 cd14 ct14,f15,PySem.W.fnOf "_law_word" "_law_word" (af bC) (ae bC) (aa bC) .none kV15 dc15 pm15 an15 cd15 ct15,f16,PySem.W.fnOf "_law_words" "_law_words" (af bg) (ae bg) (aa bg) .none kV16 dc16 pm16 an16 cd16 ct16,f17,PySem.W.fnOf "_law_node" "_law_node" (af bA) (ae bA) (aa bA) .none kV17 dc17 pm17 an17 cd17 ct17,f18,PySem.W.fnOf "_law_facts" "_law_facts" (af bj) (ae bj) (aa bj) .none kV18 dc18 pm18 an18 cd18 ct18,f19,PySem.W.fnOf "_law_many_facts" "_law_many_facts" (af ao) (ae ao) (aa ao) .none kV19 dc19 pm19 an19 cd19 ct19,f20,PySem.W.fnOf "_law_sort" "_law_sort" (af bz) (ae bz) (aa bz) .none kV20 dc20 pm20 an20 cd20 ct20,f21,PySem.W.fnOf "_law_node_before" "_law_node_before" (af aq) (ae aq) (aa aq) .none kV21 dc21 pm21 an21 cd21 ct21,f22,PySem.W.fnOf "_law_before" "_law_before" (af aU) (ae aU) (aa aU) .none kV22 dc22 pm22 an22 cd22 ct22,f23,PySem.W.fnOf "_law_right" "_law_right" (af bo) (ae bo) (aa bo) .none kV23 dc23 pm23 an23 cd23 ct23,f24,PySem.W.fnOf "law" "law" (af bV) (ae bV) (aa bV) .none kV24 dc24 pm24 an24 cd24 ct24,tk_GREATEST_NUMBER,tk_MOST_FACTS,tk_MOST_LETTERS⟩,fun s u=>.of_eq rfl,?_⟩
 exact ⟨au (st:=aj) l0 c0 k0,
  (au (st:=aj) l0 c0 k0).binds (ps:=["thing", "fewest"]) fun _ _ _ _ _ _ us hl=>match us,hl with | [_,_],_=>rfl,
  Js X G a0,
  au (st:=aL) l1 c1 k1,
  (au (st:=aL) l1 c1 k1).binds (ps:=["thing"]) fun _ _ _ _ _ _ us hl=>match us,hl with | [_],_=>rfl,
  Js X G a1,
  au (st:=aC) l2 c2 k2,
  (au (st:=aC) l2 c2 k2).binds (ps:=["thing"]) fun _ _ _ _ _ _ us hl=>match us,hl with | [_],_=>rfl,
  Js X G a2,
  au (st:=az) l3 c3 k3,
  (au (st:=az) l3 c3 k3).binds (ps:=["thing"]) fun _ _ _ _ _ _ us hl=>match us,hl with | [_],_=>rfl,
  Js X G a3,
  au (st:=aO) l4 c4 k4,
  (au (st:=aO) l4 c4 k4).binds (ps:=["thing"]) fun _ _ _ _ _ _ us hl=>match us,hl with | [_],_=>rfl,
  Js X G a4,
  au (st:=aK) l5 c5 k5,
  (au (st:=aK) l5 c5 k5).binds (ps:=["thing"]) fun _ _ _ _ _ _ us hl=>match us,hl with | [_],_=>rfl,
  Js X G a5,
  au (st:=aP) l6 c6 k6,
  (au (st:=aP) l6 c6 k6).binds (ps:=["node"]) fun _ _ _ _ _ _ us hl=>match us,hl with | [_],_=>rfl,
  Js X G a6,
  au (st:=aD) l7 c7 k7,
  (au (st:=aD) l7 c7 k7).binds (ps:=["node"]) fun _ _ _ _ _ _ us hl=>match us,hl with | [_],_=>rfl,
  Js X G a7,
  au (st:=aN) l8 c8 k8,
  (au (st:=aN) l8 c8 k8).binds (ps:=["thing"]) fun _ _ _ _ _ _ us hl=>match us,hl with | [_],_=>rfl,
  Js X G a8,
  au (st:=aE) l9 c9 k9,
  (au (st:=aE) l9 c9 k9).binds (ps:=["fact"]) fun _ _ _ _ _ _ us hl=>match us,hl with | [_],_=>rfl,
  Js X G a9,
  au (st:=ag) l10 c10 k10,
  (au (st:=ag) l10 c10 k10).binds (ps:=["facts"]) fun _ _ _ _ _ _ us hl=>match us,hl with | [_],_=>rfl,
  Js X G a10,
  au (st:=aw) l11 c11 k11,
  (au (st:=aw) l11 c11 k11).binds (ps:=["things"]) fun _ _ _ _ _ _ us hl=>match us,hl with | [_],_=>rfl,
  Js X G a11,
  au (st:=aV) l12 c12 k12,
  (au (st:=aV) l12 c12 k12).binds (ps:=["facts"]) fun _ _ _ _ _ _ us hl=>match us,hl with | [_],_=>rfl,
  Js X G a12,
  au (st:=cj) l13 c13 k13,
  (au (st:=cj) l13 c13 k13).binds (ps:=["_law_script"]) fun _ _ _ _ _ _ us hl=>match us,hl with | [_],_=>rfl,
  Js X G a13,
  au (st:=bD) l14 c14 k14,
  (au (st:=bD) l14 c14 k14).binds (ps:=["_law_pen_here", "_law_most"]) fun _ _ _ _ _ _ us hl=>match us,hl with | [_,_],_=>rfl,
  Js X G a14,
  au (st:=bC) l15 c15 k15,
  (au (st:=bC) l15 c15 k15).binds (ps:=["_law_pen_here", "_law_many"]) fun _ _ _ _ _ _ us hl=>match us,hl with | [_,_],_=>rfl,
  Js X G a15,
  au (st:=bg) l16 c16 k16,
  (au (st:=bg) l16 c16 k16).binds (ps:=["_law_pen_here", "_law_most"]) fun _ _ _ _ _ _ us hl=>match us,hl with | [_,_],_=>rfl,
  Js X G a16,
  au (st:=bA) l17 c17 k17,
  (au (st:=bA) l17 c17 k17).binds (ps:=["_law_pen_here", "_law_things"]) fun _ _ _ _ _ _ us hl=>match us,hl with | [_,_],_=>rfl,
  Js X G a17,
  au (st:=bj) l18 c18 k18,
  (au (st:=bj) l18 c18 k18).binds (ps:=["_law_pen_here"]) fun _ _ _ _ _ _ us hl=>match us,hl with | [_],_=>rfl,
  Js X G a18,
  au (st:=ao) l19 c19 k19,
  (au (st:=ao) l19 c19 k19).binds (ps:=["_law_pen_here"]) fun _ _ _ _ _ _ us hl=>match us,hl with | [_],_=>rfl,
  Js X G a19,
  au (st:=bz) l20 c20 k20,
  (au (st:=bz) l20 c20 k20).binds (ps:=["_law_node_here"]) fun _ _ _ _ _ _ us hl=>match us,hl with | [_],_=>rfl,
  Js X G a20,
  au (st:=aq) l21 c21 k21,
  (au (st:=aq) l21 c21 k21).binds (ps:=["_law_one", "_law_other"]) fun _ _ _ _ _ _ us hl=>match us,hl with | [_,_],_=>rfl,
  Js X G a21,
  au (st:=aU) l22 c22 k22,
  (au (st:=aU) l22 c22 k22).binds (ps:=["_law_one", "_law_other"]) fun _ _ _ _ _ _ us hl=>match us,hl with | [_,_],_=>rfl,
  Js X G a22,
  au (st:=bo) l23 c23 k23,
  (au (st:=bo) l23 c23 k23).binds (ps:=["_law_found", "_law_facts_here"]) fun _ _ _ _ _ _ us hl=>match us,hl with | [_,_],_=>rfl,
  Js X G a23,
  au (st:=bV) l24 c24 k24,
  (au (st:=bV) l24 c24 k24).binds (ps:=["_law_script"]) fun _ _ _ _ _ _ us hl=>match us,hl with | [_],_=>rfl,
  Js X G a24,
  J0 X G z_abs,
  J0 X G z_all,
  J0 X G z_bool,
  J0 X G z_int,
  J0 X G z_isinstance,
  J0 X G z_len,
  J0 X G z_list,
  J0 X G z_range,
  J0 X G z_sorted,
  J0 X G z_str,
  J0 X G z_tuple,
  Js X G g_GREATEST_NUMBER,
  Js X G g_MOST_FACTS,
  Js X G g_MOST_LETTERS⟩
local macro_rules | `(tactic| walk_at "p")=>`(tactic| first | with_reducible refine B6 ?_ | walk_at "p0")
local macro_rules | `(tactic| walk_at "p0")=>`(tactic| first
 | with_reducible refine Bf ?_ | with_reducible refine Bm ?_ | with_reducible refine C1 ?_ | with_reducible refine Cq ?_ | with_reducible refine CY ?_ | with_reducible refine Es ?_ | with_reducible refine BO ?_ | with_reducible refine GP ?_ | with_reducible refine HK ?_ | with_reducible refine EB ?_ | with_reducible refine EZ ?_ | with_reducible refine Gy ?_ | with_reducible refine Fq ?_
 | with_reducible refine EU ?_ | with_reducible refine CO ?_ | with_reducible refine EK ?_
 | ((with_reducible refine w_var (d:=?d9) ?e9 ?_);(case e9=>exact rfl)) | ((with_reducible refine CW (d:=?d9) ?e9 ?_);(case e9=>exact rfl)) | ((with_reducible refine C6 (d:=?d9) ?e9 ?_);(case e9=>exact rfl)) | ((with_reducible refine Cm (d:=?d9) ?e9 ?_);(case e9=>exact rfl))
 | ((with_reducible refine EC (d:=?d9) ?e9 ?_);(case e9=>exact rfl)) | ((with_reducible refine FE (d:=?d9) ?e9 ?_);(case e9=>exact rfl)) | ((with_reducible refine F8 (d:=?d9) ?e9 ?_);(case e9=>exact rfl))
 | with_reducible refine Fw ?_ | with_reducible refine BS ?_ | with_reducible refine FQ ?_ | ((with_reducible refine FG (d:=?d9) ?e9 ?f9 ?_);(case e9=>exact rfl);(case f9=>exact rfl))
 | with_reducible refine DE ?_ | with_reducible refine CS ?_ | with_reducible refine FY ?_ | with_reducible refine Cu ?_ | with_reducible refine Gd ?_ | with_reducible refine Bd ?_ | with_reducible refine DC ?_ | with_reducible refine Ft ?_ | with_reducible refine EN rfl ?_ | with_reducible refine Bl rfl ?_
 | with_reducible refine FN ?_ | with_reducible refine F5 ?_ | with_reducible refine w_and ?_ | with_reducible refine w_or ?_ | with_reducible refine w_not ?_ | with_reducible refine Fx ?_
 | with_reducible refine Ii ?_ | with_reducible refine Iv ?_ | with_reducible refine HL ?_ | with_reducible refine Hx ?_ | with_reducible refine Ia ?_ | with_reducible refine H0 ?_ | with_reducible refine Iq ?_
 | walk_at "q")
local macro_rules | `(tactic| walk_at "q0")=>`(tactic| first
 | ((with_reducible refine rC ?e9 ?_);(case e9=>exact rfl)) | ((with_reducible refine mO ?e9 ?_);(case e9=>exact rfl))
 | ((show WPr _ _ _ _);refine ⟨_,_,rfl,rfl,?_⟩) | ((show WPr _ _ _ _);(refine ⟨_,_,rfl,IX ?c9,?_⟩);(case c9=>walk_at "c")) | ((show DK _ _ _ _);refine ⟨_,_,rfl,rfl,?_⟩) | ((show vI _ _ _);refine ⟨_,rfl,?_⟩) | ((show DJ _ _ _ _ _ _ _);refine ⟨_,rfl,rfl,?_⟩) | ((show Cn _ _ _ _ _ _);refine ⟨_,_,_,rfl,rfl,rfl,?_⟩) | ((show DI _ _ _ _ _ _);refine ⟨_,rfl,rfl,?_⟩) | ((show DW _ _ _ _ _);refine ⟨_,_,_,rfl,rfl,rfl,?_⟩) | ((show WMr _ _ _ _ _);refine ⟨_,_,_,_,rfl,rfl,rfl,?_⟩) | ((show WTp _ _ _ _);refine ⟨_,rfl,Nat.le_of_ble_eq_true rfl,?_⟩) | ((show DM _ _ _ _);refine ⟨_,_,rfl,rfl,?_⟩) | ((show Ce _ _ _ _);refine ⟨_,rfl,rfl,?_⟩) | ((show sU _ _ _ _);refine ⟨_,rfl,rfl,?_⟩)
 | ((with_reducible refine ⟨_,rfl,?_⟩)))
local macro_rules | `(tactic| walk_at "pp")=>`(tactic| repeat walk_at "p")
local macro_rules | `(tactic| walk_at "c")=>`(tactic| first | exact rfl | assumption | (simp only [mulC,Bool.or_eq_true,JL,K9] <;> omega))
local macro_rules | `(tactic| walk_at "pz")=>`(tactic| repeat walk_at "p0")
local macro_rules | `(tactic| walk_at "n=")=>`(tactic| ((try dsimp only [Cst.i,Cst.s,Cst.b,Cst.n,RV.av,ax,List.replicate_succ,List.replicate_zero,d4,iG,aM,cu,bp,fu,nO,List.set_cons_zero,List.set_cons_succ,List.getElem?_cons_zero,Lg,JK,List.map_nil,List.tail_cons,Option.getD_some,decide_true,decide_false,List.drop_succ_cons,K5]);exact rfl))
local macro_rules | `(tactic| walk_at "n")=>`(tactic| first
 | ((with_reducible refine B7 (e':=?e9) ?h9 ?_);(case h9=>walk_at "n=")) | ((with_reducible refine yU (e':=?e9) ?h9 ?_);(case h9=>walk_at "n=")) | ((with_reducible refine Cs (e':=?e9) ?h9 ?_);(case h9=>walk_at "n=")) | ((with_reducible refine HB (e':=?e9) ?h9 ?_);(case h9=>walk_at "n=")) | ((with_reducible refine HR (e':=?e9) ?h9 ?_);(case h9=>walk_at "n=")) | ((with_reducible refine Im (e':=?e9) ?h9 ?_);(case h9=>walk_at "n=")) | ((with_reducible refine Iu (e':=?e9) ?h9 ?_);(case h9=>walk_at "n=")) | ((with_reducible refine Ir (e':=?e9) ?h9 ?_);(case h9=>walk_at "n=")) | ((with_reducible refine Fp (e':=?e9) ?h9 ?_);(case h9=>walk_at "n=")) | ((with_reducible refine zT (e':=?e9) ?h9 ?_);(case h9=>walk_at "n=")) | ((with_reducible refine F9 (e':=?e9) ?h9 ?_);(case h9=>walk_at "n=")) | ((with_reducible refine Eg (e':=?e9) ?h9 ?_);(case h9=>walk_at "n=")) | ((with_reducible refine Eo (e':=?e9) ?h9 ?_);(case h9=>walk_at "n=")) | ((with_reducible refine CP (e':=?e9) ?h9 ?_);(case h9=>walk_at "n=")) | ((with_reducible refine Ck (e':=?e9) ?h9 ?_);(case h9=>walk_at "n=")) | ((with_reducible refine zY (e':=?e9) ?h9 ?_);(case h9=>walk_at "n=")) | ((with_reducible refine Ao (e':=?e9) ?h9 ?_);(case h9=>walk_at "n=")) | ((with_reducible refine Du (e':=?e9) ?h9 ?_);(case h9=>walk_at "n=")) | ((with_reducible refine Dt (e':=?e9) ?h9 ?_);(case h9=>walk_at "n=")))
local macro_rules | `(tactic| walk_at "soft")=>`(tactic| first | exact EH | exact EV | exact DZ | assumption)
local macro_rules | `(tactic| walk_at "l1")=>`(tactic| first | (rename_i h9;obtain ⟨_,h8,rfl⟩:=h9) | (rename_i h9;obtain ⟨_,_,_,h8,rfl⟩:=h9))
local macro_rules | `(tactic| walk_at "l")=>`(tactic| repeat walk_at "l1")
local macro_rules | `(tactic| walk_at "L1")=>`(tactic| first | exact (rfl:vQ [] []) | refine ⟨_,?_,rfl⟩ | ((refine ⟨_,_,?s9,?_,rfl⟩);(case s9=>walk_at "soft")))
local macro_rules | `(tactic| walk_at "L")=>`(tactic| repeat walk_at "L1")
local macro_rules | `(tactic| walk_at "q")=>`(tactic| first | walk_at "q0" | ((show Ho _ _ _ _);refine ⟨_,_,_,rfl,rfl,rfl,?_⟩) | ((show GY _ _ _ _ _);refine ⟨_,_,rfl,rfl,?_⟩) | ((show Ce _ _ _ _);(refine ⟨_,rfl,v7 rfl ?s9,?_⟩);(case s9=>walk_at "soft")) | ((show sU _ _ _ _);(refine ⟨_,rfl,v7 rfl ?s9,?_⟩);(case s9=>walk_at "soft")))
local macro_rules | `(tactic| walk_at "fT1")=>`(tactic| ((refine qA ?f9 ?_);(case f9=>((refine v7 rfl ?s9);(case s9=>walk_at "soft")))))
local macro_rules | `(tactic| walk_at "fT")=>`(tactic| ((refine Ds (e2:=?e9) ?h9 ?_);(case h9=>((repeat walk_at "fT1");exact rfl))))
local macro_rules | `(tactic| walk_at "f")=>`(tactic| ((refine FW ?h9 ?_);(case h9=>((refine v7 rfl ?s9);(case s9=>walk_at "soft")));walk_at "n"))
local macro_rules | `(tactic| walk_at "ps1")=>`(tactic| ((fail_if_success (with_reducible refine isEq ?_));walk_at "p"))
local macro_rules | `(tactic| walk_at "ps")=>`(tactic| repeat walk_at "ps1")
theorem jW {c:Bool} {a b:Prop} (h1:c=true->a) (h2:c=false->b):if c=true then a else b:=by
 cases c with
 | true=>rw [IX rfl];exact h1 rfl
 | false=>rw [IV (by decide)];exact h2 rfl
def yF (cs:List Int) (p l:Int):PyData:=.dict [(.str "script", .list (cs.map .int)),(.str "at", .int p),(.str "left", .int l)]
theorem BC {ns:List Int} {Q:PR->List PyData->Prop} (q:Q (.frs (yF ns 0 0)) []):WF sv [.list (ns.map .int)] Q:=⟨_,_,rfl,q⟩
theorem zV {cs:List Int} {p l m:Int} {Q:PR->List PyData->Prop} (hp:0<=p) (hb:p < 2 ^ 60) (hl:0<=l) (h0:0 < m) (hm:m < 2 ^ 200) (q:∀ v p' l',0<=v->v < m->0<=p'->p'<=p+1->0<=l'->Q (.dat (.int v)) [yF cs p' l']):WF aT [yF cs p l,.int m] Q:=by
 refine gN rfl ?_;have m0:∀ x:Int,0<=x % m/\x % m < m:=fun x=>⟨Int.emod_nonneg _ (by omega),Int.emod_lt_of_pos _ h0⟩;have d0:∀ x:Int,0<=x->0<=x / m:=fun x h=>Int.ediv_nonneg h (Int.le_of_lt h0);have fin:∀ c:Int,0<=(if c < 0 then -c else c):=fun c=>by split <;> omega
 unfold ou;walk_at "pp";refine jW (fun e0=>?_) (fun e0=>?_)
 ·walk_at "pp";refine jW (fun e1=>?_) (fun e1=>?_)
  ·have h1:(0:Int) < (((cs.map PyData.int).length:Nat):Int):=JM e1;obtain ⟨d,hd,ed⟩:=atV (xs:=cs.map PyData.int) (Int.emod_nonneg p (by omega)) (Int.emod_lt_of_pos p h1);obtain ⟨c,_,rfl⟩:=JB.mp hd;walk_at "pp";refine vj rfl ed ?_;clear ed hd;walk_at "pp";refine jW (fun e2=>?_) (fun e2=>?_)
   ·walk_at "pp";exact q _ _ _ (m0 _).1 (m0 _).2 (by omega) (by omega) hl
   ·walk_at "pp";refine jW (fun e3=>?_) (fun e3=>?_)
    ·walk_at "pp";exact q _ _ _ (m0 _).1 (m0 _).2 (by omega) (by omega) hl
    ·walk_at "pp";exact q _ _ _ (m0 _).1 (m0 _).2 (by omega) (by omega) (d0 _ (fin c))
  ·walk_at "pp";refine jW (fun e2=>?_) (fun e2=>?_)
   ·walk_at "pp";exact q _ _ _ (m0 _).1 (m0 _).2 (by omega) (by omega) hl
   ·walk_at "pp";exact q _ _ _ (m0 _).1 (m0 _).2 (by omega) (by omega) hl
 ·walk_at "pp";exact q _ _ _ (m0 l).1 (m0 l).2 hp (by omega) (d0 l hl)
def cS (cs:List Int) (B:Nat) (d:PyData):Prop:=∃ p l:Int,d=yF cs p l/\0<=p/\p<=B/\0<=l
theorem cS.mono {cs:List Int} {B C:Nat} {d:PyData} (h:cS cs B d) (hb:B<=C):cS cs C d:=by
 obtain ⟨p,l,e,a,b,c⟩:=h;exact ⟨p,l,e,a,by omega,c⟩
theorem GO {cs:List Int} {B:Nat} {pn:PyData} {m:Int} {e1:En} {Q:RV->En->Prop} {i:Nat} (hi:br e1 i=some pn) (hP:cS cs B pn) (hb:B < 2 ^ 60) (h0:0 < m) (hm:m < 2 ^ 200) (q:∀ v pn',cS cs (B+1) pn'->0<=v->v < m->Q (.dat (.int v)) (iG e1 i pn')):qU aT [.bor i,.dat (.int m)] e1 Q:=by
 obtain ⟨p,l,rfl,hp,hb',hl⟩:=hP;refine ar (ds:=[yF cs p l,.int m]) (is:=[i]) ?_ rfl (zV hp (by omega) hl h0 hm fun v p' l' a b c d e=>⟨?_,q v _ ⟨p',l',rfl,c,by omega,e⟩ a b⟩)
 ·show jZ e1 [.ino,.dat] _=_;simp only [jZ,Er,hi]
 ·rfl
def Ltr (x:Str):Prop:=∀ c∈x.cps.toList,97<=c/\c<=122
abbrev abc:Str := "abcdefghijklmnopqrstuvwxyz"
theorem jc (x y:Str):(x++y).length=x.length+y.length:=i6 x y
theorem oe (x y:Str):(x++y).cps.toList=x.cps.toList++y.cps.toList:=by
 show (x.cps++y.cps).toList=_;simp
theorem ee (c:Nat):(⟨#[c]⟩:Str).length=1:=rfl
theorem vi {x y:Str} (hx:Ltr x) (hy:Ltr y):Ltr (x++y):=fun c hc=>by
 rw [oe] at hc;rcases Jx.mp hc with h | h
 ·exact hx c h
 ·exact hy c h
inductive Nd
 | num (n:Int)
 | fY (x:Str)
 | bO (x:Str)
def Nd.enc:Nd->PyData
 | .num n=>.int n
 | .fY x=>.tuple [.str x]
 | .bO x=>.str x
def Nd.key:Nd->Ky
 | .num n=>(0,n, "")
 | .fY x=>(1,0,x)
 | .bO x=>(2,0,x)
def D2 (k:Ky):PyData:=.tuple [.int k.1,.int k.2.1,.str k.2.2]
def ltN (a b:Nd):Bool:=ltK a.key b.key
theorem z5:∀ {a b:Nd},a.key=b.key->a=b
 | .num n,.num m,h=>by have:n=m:=congrArg (·.2.1) h;rw [this]
 | .fY x,.fY y,h=>by have:x=y:=congrArg (·.2.2) h;rw [this]
 | .bO x,.bO y,h=>by have:x=y:=congrArg (·.2.2) h;rw [this]
 | .num _,.fY _,h=>by have:=congrArg (·.1) h;simp [Nd.key] at this
 | .num _,.bO _,h=>by have:=congrArg (·.1) h;simp [Nd.key] at this
 | .fY _,.num _,h=>by have:=congrArg (·.1) h;simp [Nd.key] at this
 | .fY _,.bO _,h=>by have:=congrArg (·.1) h;simp [Nd.key] at this
 | .bO _,.num _,h=>by have:=congrArg (·.1) h;simp [Nd.key] at this
 | .bO _,.fY _,h=>by have:=congrArg (·.1) h;simp [Nd.key] at this
theorem y9:∀ {a b:Nd},PyData.eqv a.enc b.enc=true->a=b
 | .num n,.num m,h=>by
  have:n=m:=by simpa [Nd.enc,PyData.eqv] using h
  rw [this]
 | .fY x,.fY y,h=>by
  have:x=y:=by simpa [Nd.enc,PyData.eqv,PyData.eqvAll] using h
  rw [this]
 | .bO x,.bO y,h=>by
  have:x=y:=by simpa [Nd.enc,PyData.eqv] using h
  rw [this]
 | .num _,.fY _,h=>by simp [Nd.enc,PyData.eqv] at h
 | .num _,.bO _,h=>by simp [Nd.enc,PyData.eqv] at h
 | .fY _,.num _,h=>by simp [Nd.enc,PyData.eqv] at h
 | .fY _,.bO _,h=>by simp [Nd.enc,PyData.eqv] at h
 | .bO _,.num _,h=>by simp [Nd.enc,PyData.eqv] at h
 | .bO _,.fY _,h=>by simp [Nd.enc,PyData.eqv] at h
theorem wd (a:Nd):PyData.eqv a.enc a.enc=true:=by
 cases a <;> simp [Nd.enc,PyData.eqv,PyData.eqvAll]
theorem z0 (a:Nd):noD a.enc=true:=by cases a <;> rfl
theorem zF (a:Nd):a.enc.depth<=2:=by
 cases a with
 | num n=>simp [Nd.enc,PyData.depth]
 | bO n=>simp [Nd.enc,PyData.depth]
 | fY n=>simp [Nd.enc,PyData.depth,PyData.depthAll]
theorem zD {a:Nd} {Q:PR->List PyData->Prop} (q:Q (.dat (.str (match a with | .num _ => "number" | .fY _ => "said" | .bO _ => "thing"))) []):WF ij [a.enc] Q:=by
 refine gN rfl ?_;unfold hZ;cases a <;> (unfold Nd.enc;walk_at "pp"; exact q)
theorem Cv {a:Nd} {Q:PR->List PyData->Prop} (q:Q (.dat (D2 a.key)) []):WF fJ [a.enc] Q:=by
 refine gN rfl ?_;unfold fN;walk_at "pp";refine ar (ds:=[a.enc]) (is:=[]) rfl rfl (zD ⟨rfl,?_⟩);walk_at "n";cases a with
 | num n =>
  unfold Nd.enc;walk_at "pp";exact q
 | fY n =>
  unfold Nd.enc;walk_at "pp";exact q
 | bO n =>
  unfold Nd.enc;walk_at "pp";exact q
def Nd.sm (a:Nd):Prop:=match a with | .num n=>-1000000000000000000000000000000 < n/\n < 1000000000000000000000000000000 | .fY x=>Ltr x/\x.length<=8 | .bO x=>Ltr x/\x.length<=8/\0 < x.length
def Nd.kd:Nd->Int | .num _=>0 | .fY _=>1 | .bO _=>2
theorem kP {a:Nd} {Q:PR->List PyData->Prop} (q:Q (.dat (.int a.kd)) []):WF gJ [a.enc] Q:=by
 refine gN rfl ?_;unfold nL;cases a <;> (unfold Nd.enc;walk_at "pp"; exact q)
theorem lt_str {x y:Str}:(if x=y then false else decide (x.cps.toList < y.cps.toList))=decide (x.cps.toList < y.cps.toList):=by
 split
 ·rename_i h;rw [h,Jz (List.lt_irrefl _)]
 ·rfl
theorem Gb {e:En} {x y:AV} {d d':PyData} {z:Bool} {Q:RV->En->Prop} (h1:bG e [x,y]=some [d,d']) (h2:GR d d'=some (.dat (.bool z))) (q:Q (.dat (.bool z)) e):WPr DT [x,y] e Q:=⟨_,.dat (.bool z),h1,h2,q⟩
theorem j5 {a b:Nd} {Q:PR->List PyData->Prop} (q:Q (.dat (.bool (ltN a b))) []):WF cT [a.enc,b.enc] Q:=by
 refine gN rfl ?_;unfold cP;walk_at "pp";refine ar (ds:=[a.enc]) (is:=[]) rfl rfl (kP ⟨rfl,?_⟩);walk_at "n";walk_at "pp";refine ar (ds:=[b.enc]) (is:=[]) rfl rfl (kP ⟨rfl,?_⟩);walk_at "n";walk_at "pp";by_cases hk:a.kd=b.kd
 ·rw [hk];refine mO (by simp [PyData.eqv]) ?_;walk_at "pp";refine Gb (d:=a.enc) (d':=b.enc) (z:=ltN a b) rfl ?_ (by walk_at "pp"; exact q);cases a with
  | num n =>
   cases b with
   | num m =>
    have:decide (n < m)=ltN (.num n) (.num m):=by
     unfold ltN ltK;show decide (n < m)=(if n=m then decide ((Str.ofString "").cps.toList < (Str.ofString "").cps.toList) else decide (n < m));split
     ·rename_i h;rw [h,Jz (List.lt_irrefl _)];exact Jz (by omega)
     ·rfl
    rw [<- this];rfl
   | fY y=>cases hk
   | bO y=>cases hk
  | fY x =>
   cases b with
   | num m=>cases hk
   | fY y =>
    have:(if x=y then false else decide (x.cps.toList < y.cps.toList))=ltN (.fY x) (.fY y):=lt_str;rw [<- this];rfl
   | bO y=>cases hk
  | bO x =>
   cases b with
   | num m=>cases hk
   | fY y=>cases hk
   | bO y=>rfl
 ·refine rC (by simp [PyData.eqv,hk]) ?_;walk_at "pp";refine ar (ds:=[a.enc]) (is:=[]) rfl rfl (kP ⟨rfl,?_⟩);walk_at "n";walk_at "pp";refine ar (ds:=[b.enc]) (is:=[]) rfl rfl (kP ⟨rfl,?_⟩);walk_at "n";walk_at "pp";have e:ltN a b=decide (a.kd < b.kd):=by
   have h1:∀ a:Nd,a.key.1=a.kd:=fun a=>by cases a <;> rfl
   unfold ltN ltK;rw [h1,h1,IV hk]
  rw [e] at q;exact q
structure Fc where
 t:Str
 b:Str
 n:Nd
def Fc.enc (f:Fc):PyData:=.tuple [.str f.t,.str f.b,f.n.enc]
def Nam (x:Str):Prop:=Ltr x/\x.length<=8/\0 < x.length
def Fc.sm (f:Fc):Prop:=Nam f.t/\Nam f.b/\f.n.sm
def Fc.key (f:Fc):Fy:=(f.t,f.b,f.n.key)
def gZ (a b:Fc):Bool:=ltF a.key b.key
theorem o7 {a b:Fc} (h:a.key=b.key):a=b:=by
 obtain ⟨a1,a2,a3⟩:=a;obtain ⟨b1,b2,b3⟩:=b;have h1:a1=b1:=congrArg (·.1) h;have h2:a2=b2:=congrArg (·.2.1) h;have h3:a3=b3:=z5 (congrArg (·.2.2) h);rw [h1,h2,h3]
theorem vT {a b:Fc} (h:PyData.eqv a.enc b.enc=true):a=b:=by
 obtain ⟨a1,a2,a3⟩:=a;obtain ⟨b1,b2,b3⟩:=b;have h:a1=b1/\a2=b2/\PyData.eqv a3.enc b3.enc=true:=by simpa [Fc.enc,PyData.eqv,PyData.eqvAll] using h
 rw [h.1,h.2.1,y9 h.2.2]
theorem mw (a:Fc):PyData.eqv a.enc a.enc=true:=by
 simp [Fc.enc,PyData.eqv,PyData.eqvAll,wd]
theorem qa (a:Fc):noD a.enc=true:=by
 simp [Fc.enc,noD,fK,z0]
theorem lx (a:Fc):a.enc.depth<=3:=by
 refine i4 (k:=2) fun d hd=>?_;simp only [Jo,List.mem_nil_iff,or_false] at hd;rcases hd with rfl | rfl | rfl
 ·simp [PyData.depth]
 ·simp [PyData.depth]
 ·exact zF _
theorem wa (xs:List Fc):ip (.list (xs.map Fc.enc))=true:=by
 refine ud ?_ (Ju (qu (k:=3) fun d hd=>?_) (by omega))
 ·simp only [noD];exact lR.mpr fun d hd=>by
   obtain ⟨x,_,rfl⟩:=JB.mp hd;exact qa x
 ·obtain ⟨x,_,rfl⟩:=JB.mp hd;exact lx x
theorem lG (a:Fc):hk6 a.enc=true:=by
 unfold hk6;rw [JL];refine ⟨?_,Jr (Ju (lx a) (by omega))⟩;obtain ⟨t,b,n⟩:=a;cases n <;> rfl
theorem yy {a:Fc} {Q:PR->List PyData->Prop} (q:Q (.dat (.tuple [.str a.t,.str a.b,D2 a.n.key])) []):WF cc [a.enc] Q:=by
 refine gN rfl ?_;unfold fF Fc.enc;walk_at "pp";refine ar (ds:=[a.n.enc]) (is:=[]) rfl rfl (Cv ⟨rfl,?_⟩);walk_at "n";walk_at "pp";exact q
theorem uv {a b:Fc} {Q:PR->List PyData->Prop} (q:Q (.dat (.bool (gZ a b))) []):WF jg [a.enc,b.enc] Q:=by
 have e0:gZ a b=if a.t=b.t then (if a.b=b.b then ltN a.n b.n else decide (a.b.cps.toList < b.b.cps.toList)) else decide (a.t.cps.toList < b.t.cps.toList):=rfl
 rw [e0] at q;refine gN rfl ?_;unfold jj Fc.enc;walk_at "pp";rw [ua];by_cases h1:a.t=b.t
 ·rw [IX h1] at q;refine mO (by simp [h1]) ?_;walk_at "pp";rw [ua];by_cases h2:a.b=b.b
  ·rw [IX h2] at q;refine mO (by simp [h2]) ?_;walk_at "pp";refine ar (ds:=[a.n.enc,b.n.enc]) (is:=[]) rfl rfl (j5 ⟨rfl,?_⟩);walk_at "pp";exact q
  ·rw [IV h2] at q;refine rC (by simp [h2]) ?_;walk_at "pp";exact q
 ·rw [IV h1] at q;refine rC (by simp [h1]) ?_;walk_at "pp";exact q
local macro_rules | `(tactic| walk_at "d")=>`(tactic| ((repeat walk_at "p");(refine GO (cs:=?c9) (B:=?b9) (pn:=?n9) (m:=?m9) (hi:=?hi9) (hP:=?hP9) ?hb9 ?h09 ?hm9 ?_);(case hi9=>exact rfl);(case hP9=>assumption);(case hb9=>omega);(case h09=>first | decide | omega);(case hm9=>first | decide | omega)))
theorem FU {x:Str} {k:Int} (h:0<=k):(vv x none (some k)).cps.toList=x.cps.toList.take k.toNat:=by
 have:=vW (xs:=x.cps.toList) h;unfold L2.cutD at this;rw [oF] at this;unfold vv;simpa using this
theorem Bi:∀ n < 26,abc.cps.toList[n]?=some (97+n):=by decide +kernel
theorem Cd {r:Int} (h0:0<=r) (h1:r < 26):atI abc.cps.toList r=some (97+r.toNat):=by
 have:=i9 (xs:=abc.cps.toList) (j:=r.toNat) (Bi r.toNat (by omega))
 rwa [Int.toNat_of_nonneg h0] at this
theorem E2 {r:Int} (h0:0<=r) (h1:r < 26):Ltr ⟨#[97+r.toNat]⟩:=fun c hc=>by
 have:c=97+r.toNat:=by simpa using hc
 omega
abbrev wds:List PyData:=[.str "any", .str "keeps", .str "least", .str "is", .str "all", .str "many"]
theorem e6:∀ w∈wds,∃ z:Str,w=.str z/\z.length<=5/\Ltr z:=by
 intro w h;simp only [Jo,List.mem_nil_iff,or_false] at h;rcases h with rfl | rfl | rfl | rfl | rfl | rfl <;> exact ⟨_,rfl,by decide +kernel,by unfold Ltr;decide +kernel⟩
theorem uW {cs:List Int} {B:Nat} {pn:PyData} {m:Int} {Q:PR->List PyData->Prop} (hP:cS cs B pn) (hb:B < 2 ^ 59) (h0:0<=m) (h1:m<=8) (q:∀ (x:Str) pn',cS cs (B+10) pn'->Ltr x->(x.length:Int)=m->Q (.dat (.str x)) [pn']):WF lr [pn,.int m] Q:=by
 refine gN rfl ?_;unfold oT;walk_at "d";intro w1 pn1 hP1 w10 w11;walk_at "n";walk_at "pp";obtain ⟨d1,hd1,ed1⟩:=atV (xs:=wds) w10 w11;obtain ⟨z1,rfl,hz1,lz1⟩:=e6 d1 hd1;refine vj rfl ed1 ?_;clear ed1 hd1;walk_at "d";intro w2 pn2 hP2 w20 w21;walk_at "n";walk_at "pp";obtain ⟨d2,hd2,ed2⟩:=atV (xs:=([.str "", .str "", .str "", .str z1]:List PyData)) w20 w21;have hc:∃ z:Str,d2=.str z/\z.length<=5/\Ltr z:=by
  simp only [Jo,List.mem_nil_iff,or_false] at hd2;rcases hd2 with rfl | rfl | rfl | rfl
  ·exact ⟨_,rfl,by decide,by unfold Ltr;decide⟩
  ·exact ⟨_,rfl,by decide,by unfold Ltr;decide⟩
  ·exact ⟨_,rfl,by decide,by unfold Ltr;decide⟩
  ·exact ⟨_,rfl,hz1,lz1⟩
 obtain ⟨z2,rfl,hz2,lz2⟩:=hc;refine vj rfl ed2 ?_;clear ed2 hd2;walk_at "pp";refine HX (fun k e=>∃ (x:Str) (pn':PyData),Ltr x/\x.length<=8/\k=8 - x.length/\cS cs (B+2+x.length) pn'/\e=([.ino pn',.dat (.int m),.dat (.str x)]:En)) (8 - z2.length) (by omega) ⟨z2,pn2,lz2,by omega,rfl,hP2.mono (by omega),rfl⟩ ?_;rintro k e hk ⟨x,pn',hx,hxl,rfl,hP',rfl⟩;walk_at "pp";refine jW (fun c1=>?_) (fun c1=>?_)
 ·have c1:(x.length:Int) < m:=JM c1;walk_at "d";intro w4 pn4 hP4 w40 w41;walk_at "n";walk_at "pp";refine zu rfl (Cd w40 w41) ?_;walk_at "pp";refine Cb rfl (by rw [ee];show _<=2 ^ 24;omega) ?_;walk_at "pp";refine ⟨8 - (x.length+1),by omega,_,pn4,vi hx (E2 w40 w41),by rw [jc,ee];omega,by rw [jc,ee],by rw [jc,ee];exact hP4.mono (by omega),rfl⟩
 ·have c1:¬(x.length:Int) < m:=KO c1;walk_at "pp";have e1:=FU (x:=x) h0;refine q _ pn' (hP'.mono (by omega)) (fun c hc=>?_) ?_
  ·rw [e1] at hc;exact hx c (List.mem_of_mem_take hc)
  ·rw [<- oF,e1,JN,oF];omega
theorem yZ {cs:List Int} {B:Nat} {pn:PyData} {ts:List Str} {Q:PR->List PyData->Prop} (hP:cS cs B pn) (hb:B < 2 ^ 58) (ht:0 < ts.length) (ht2:ts.length<=9) (hs:∀ x∈ts,Nam x) (q:∀ (a:Nd) pn',cS cs (B+13) pn'->a.sm->Q (.dat a.enc) [pn']):WF nH [pn,.list (ts.map .str)] Q:=by
 refine gN rfl ?_;unfold oW;walk_at "d";intro w1 pn1 hP1 w10 w11;walk_at "n";walk_at "pp";refine jW (fun e1=>?_) (fun e1=>?_)
 ·have:(0:Int) < ((ts.map PyData.str).length:Nat):=by rw [IK];omega
  have:(((ts.map PyData.str).length:Nat):Int) < 2 ^ 200:=by rw [IK];omega
  walk_at "d";intro w2 pn2 hP2 w20 w21;walk_at "n";walk_at "pp";obtain ⟨d,hd,ed⟩:=atV (xs:=ts.map PyData.str) w20 w21;obtain ⟨x,hx,rfl⟩:=JB.mp hd;refine vj rfl ed ?_;walk_at "pp";exact q (.bO x) pn2 (hP2.mono (by omega)) (hs x hx)
 walk_at "pp";refine jW (fun e2=>?_) (fun e2=>?_)
 ·walk_at "d";intro w2 pn2 hP2 w20 w21;walk_at "n";walk_at "pp";exact q (.num _) pn2 (hP2.mono (by omega)) ⟨by omega,by omega⟩
 walk_at "pp";refine jW (fun e3=>?_) (fun e3=>?_)
 ·walk_at "d";intro w2 pn2 hP2 w20 w21;walk_at "n";walk_at "pp";have:w2=0\/w2=1:=by omega
  rcases this with rfl | rfl
  ·refine vj rfl (d:=.int 1) rfl ?_;walk_at "d";intro w3 pn3 hP3 w30 w31;walk_at "n";walk_at "pp";exact q (.num (1*(10 ^ 30 - 1 - w3))) pn3 (hP3.mono (by omega)) ⟨by omega,by omega⟩
  ·refine vj rfl (d:=.int (-1)) rfl ?_;walk_at "d";intro w3 pn3 hP3 w30 w31;walk_at "n";walk_at "pp";exact q (.num (-1*(10 ^ 30 - 1 - w3))) pn3 (hP3.mono (by omega)) ⟨by omega,by omega⟩
 ·walk_at "d";intro w2 pn2 hP2 w20 w21;walk_at "n";walk_at "pp";refine ar (ds:=[pn2,.int w2]) (is:=[0]) rfl rfl (uW hP2 (by omega) w20 (by omega) fun x pn3 hP3 hx hl=>⟨rfl,?_⟩);walk_at "n";walk_at "pp";exact q (.fY x) pn3 (hP3.mono (by omega)) ⟨hx,by omega⟩
theorem pX:∀ (ss:List Str),fK (ss.map .str)=true
 | []=>by simp [fK]
 | s :: ss=>by simp [fK,noD,pX ss]
theorem GD {e:En} {x y:AV} {z:Str} (ss:List Str) {Q:RV->En->Prop} (h1:bG e [x,y]=some [.str z,.list (ss.map .str)]) (q:∀ b,(ss=[]->b=true)->Q (.dat (.bool b)) e):WPr pI [x,y] e Q:=by
 refine ⟨_,.dat (.bool (ngB true (Ad (ss.map .str) (.str z)))),h1,?_,q _ fun z=>by subst z;rfl⟩;show (if z4 (.str z)=true/\fK (ss.map .str)=true then some (PR.dat (.bool (ngB true (Ad (ss.map .str) (.str z))))) else none)=_;rw [IX ⟨by simp [z4,noD,PyData.depth],pX ss⟩]
theorem pv {cs:List Int} {B:Nat} {pn:PyData} {m:Int} {Q:PR->List PyData->Prop} (hP:cS cs B pn) (hb:B < 2 ^ 57) (h0:0 < m) (h1:m<=9) (q:∀ (xs:List Str) pn',cS cs (B+100) pn'->0 < xs.length->xs.length<=9->(∀ x∈xs,Nam x)->Q (.frs (.list (xs.map .str))) [pn']):WF iQ [pn,.int m] Q:=by
 refine gN rfl ?_;unfold lp;walk_at "d";intro w1 pn1 hP1 w10 w11;walk_at "n";walk_at "pp";refine ⟨⟨by omega,by omega⟩,?_⟩;refine gL (fun i e=>∃ (xs:List Str) (pn':PyData),xs.length<=i/\(0 < i->0 < xs.length)/\(∀ x∈xs,Nam x)/\cS cs (B+1+11*i) pn'/\vQ [some (.ino pn'),some (.dat (.int m)),some (.own (.list (xs.map .str))),none,none] e) ⟨[],pn1,IY _,fun z=>z,fun x h=>by simp at h,hP1,by walk_at "L"⟩ ?_ ?_
 ·rintro i d e hd ⟨xs,pn',hl,hz,hx,hP',_⟩;walk_at "l";obtain ⟨rfl,hi⟩:=jN hd;walk_at "f";walk_at "d";intro w2 pn2 hP2 w20 w21;walk_at "n";walk_at "pp";refine ar (ds:=[pn2,.int (1+w2)]) (is:=[0]) rfl rfl (uW hP2 (by omega) (by omega) (by omega) fun x pn3 hP3 hx2 hl2=>⟨rfl,?_⟩);walk_at "n";walk_at "pp";refine GD xs rfl fun b hb0=>?_;walk_at "pp";refine jW (fun c1=>?_) (fun c1=>?_)
  ·walk_at "pp";refine AK rfl (by rw [IK];show _ < 2 ^ 24;omega) rfl ?_;exact ⟨xs++[x],pn3,by rw [IJ];show _+1<=_;omega,fun _=>by simp,gf hx ⟨hx2,by omega,by omega⟩,hP3.mono (by omega),by rw [J6];walk_at "L"⟩
  ·walk_at "pp";refine ⟨xs,pn3,by omega,fun _=>?_,hx,hP3.mono (by omega),by walk_at "L"⟩;cases xs with
   | nil=>rw [hb0 rfl] at c1;cases c1
   | cons a b=>exact Nat.zero_lt_succ _
 ·rintro e ⟨xs,pn',hl,hz,hx,hP',_⟩;walk_at "l";rw [lA] at hl hz hP';walk_at "pp";exact q xs pn' (hP'.mono (by omega)) (hz (by omega)) (by omega) hx
theorem wz {cs:List Int} {B:Nat} {pn:PyData} {Q:PR->List PyData->Prop} (hP:cS cs B pn) (hb:B < 2 ^ 56) (q:∀ (fs:List Fc) pn',cS cs (B+1000) pn'->fs.length<=30->(∀ f∈fs,f.sm)->Q (.frs (.list (fs.map Fc.enc))) [pn']):WF lh [pn] Q:=by
 refine gN rfl ?_;unfold kM;walk_at "pp";refine ar (ds:=[pn,.int 9]) (is:=[0]) rfl rfl (pv hP (by omega) (by decide) (by decide) fun ts pn2 hP2 t0 t9 hs=>⟨rfl,?_⟩);walk_at "n";walk_at "pp";refine ar (ds:=[pn2,.int 5]) (is:=[0]) rfl rfl (pv hP2 (by omega) (by decide) (by decide) fun bs pn4 hP4 b0 b9 hs2=>⟨rfl,?_⟩);walk_at "n";walk_at "d";intro w5 pn5 hP5 w50 w51;walk_at "n";walk_at "pp";refine ⟨⟨by omega,by omega⟩,?_⟩;refine gL (fun i e=>∃ (fs:List Fc) (pn':PyData),fs.length=i/\(∀ f∈fs,f.sm)/\cS cs (B+201+20*i) pn'/\vQ [some (.ino pn'),some (.dat (.list (ts.map .str))),some (.dat (.list (bs.map .str))),some (.own (.list (fs.map Fc.enc))),none,none] e) ⟨[],pn5,rfl,fun f h=>by simp at h,hP5,by walk_at "L"⟩ ?_ ?_
 ·rintro i d e hd ⟨fs,pn',hfl,hfs,hP',_⟩;walk_at "l";obtain ⟨rfl,hi⟩:=jN hd;have l1:(0:Int) < ((ts.map PyData.str).length:Nat):=by rw [IK];omega
  have l2:(((ts.map PyData.str).length:Nat):Int) < 2 ^ 200:=by rw [IK];omega
  have l3:(0:Int) < ((bs.map PyData.str).length:Nat):=by rw [IK];omega
  have l4:(((bs.map PyData.str).length:Nat):Int) < 2 ^ 200:=by rw [IK];omega
  walk_at "f";walk_at "d";intro w6 pn6 hP6 w60 w61;walk_at "n";walk_at "pp";obtain ⟨d1,hd1,ed1⟩:=atV (xs:=ts.map PyData.str) w60 w61;obtain ⟨x,hx,rfl⟩:=JB.mp hd1;refine vj rfl ed1 ?_;walk_at "d";intro w7 pn7 hP7 w70 w71;walk_at "n";walk_at "pp";obtain ⟨d2,hd2,ed2⟩:=atV (xs:=bs.map PyData.str) w70 w71;obtain ⟨y,hy,rfl⟩:=JB.mp hd2;refine vj rfl ed2 ?_;walk_at "pp";refine ar (ds:=[pn7,.list (ts.map .str)]) (is:=[0]) rfl rfl (yZ hP7 (by omega) (by omega) (by omega) hs fun a pn8 hP8 ha=>⟨rfl,?_⟩);walk_at "n";walk_at "pz";have sm0:Fc.sm ⟨x,y,a⟩:=⟨hs x hx,hs2 y hy,ha⟩;with_reducible refine xn fun N2 eN2=>?_
  have rest2:∀ (f:Fc) (pn9:PyData),f.sm->cS cs (B+201+20*i+17) pn9->N2 ([.ino pn9,.dat (.list (ts.map .str)),.dat (.list (bs.map .str)),.own (.list (fs.map Fc.enc)),.dat (.int i),.dat f.enc]:En):=by
   intro f pn9 sf hP9;rw [eN2];walk_at "pp";refine AK rfl (by rw [IK,hfl];show i < 2 ^ 24;omega) rfl ?_;exact ⟨fs++[f],pn9,by rw [IJ,hfl];rfl,gf hfs sf,hP9.mono (by omega),by rw [J6];walk_at "L"⟩
  walk_at "pp";refine jW (fun c1=>?_) (fun c1=>?_)
  ·have l5:(0:Int) < ((fs.map Fc.enc).length:Nat):=JM c1;have l6:(((fs.map Fc.enc).length:Nat):Int) < 2 ^ 200:=by rw [IK];omega
   walk_at "d";intro w9 pn9 hP9 w90 w91;walk_at "n";walk_at "pp";refine jW (fun c2=>?_) (fun c2=>?_)
   ·walk_at "d";intro w8 pn10 hP10 w80 w81;walk_at "n";walk_at "pp";obtain ⟨d3,hd3,ed3⟩:=atV (xs:=fs.map Fc.enc) w80 w81;obtain ⟨f,hf,rfl⟩:=JB.mp hd3;refine vj rfl ed3 ?_;walk_at "pp";exact rest2 f pn10 (hfs f hf) (hP10.mono (by omega))
   ·walk_at "pp";exact rest2 ⟨x,y,a⟩ pn9 sm0 (hP9.mono (by omega))
  ·walk_at "pp";exact rest2 ⟨x,y,a⟩ pn8 sm0 (hP8.mono (by omega))
 ·rintro e ⟨fs,pn',hfl,hfs,hP',_⟩;walk_at "l";rw [lA] at hfl hP';walk_at "pp";exact q fs pn' (hP'.mono (by omega)) (by omega) hfs
abbrev abt:Str := "abcdefghijklmnopqrst"
theorem Cf:∀ n < 20,abt.cps.toList[n]?=some (97+n):=by decide +kernel
theorem xB {r:Int} (h0:0<=r) (h1:r < 20):atI abt.cps.toList r=some (97+r.toNat):=by
 have:=i9 (xs:=abt.cps.toList) (j:=r.toNat) (Cf r.toNat (by omega))
 rwa [Int.toNat_of_nonneg h0] at this
theorem yE {cs:List Int} {B:Nat} {pn:PyData} {Q:PR->List PyData->Prop} (hP:cS cs B pn) (hb:B < 2 ^ 56) (q:∀ (fs:List Fc) pn',cS cs (B+2) pn'->0 < fs.length->fs.length<=400->(∀ f∈fs,f.sm)->Q (.frs (.list (fs.map Fc.enc))) [pn']):WF dG [pn] Q:=by
 refine gN rfl ?_;unfold dQ;walk_at "d";intro w1 pn1 hP1 w10 w11;walk_at "n";walk_at "d";intro w2 pn2 hP2 w20 w21;walk_at "n";walk_at "pp";refine ⟨⟨by omega,by omega⟩,?_⟩;refine gR (fun j ys ec=>∃ ws:List Int,ys=ws.map .int/\ws.length=j/\(∀ w∈ws,0<=w/\w < 400)/\ec=[.dat (.int w2)]) ⟨[],rfl,rfl,fun a h=>by simp at h,rfl⟩ ?_ ?_
 ·rintro j d ys ec hd ⟨ws,rfl,hl,hw,rfl⟩;obtain ⟨rfl,hj⟩:=jN hd;refine kh ?_;walk_at "pp";exact ⟨ws++[7*((j:Int)+w2) % 400],by rw [J6];rfl,by rw [IJ,hl];rfl,gf hw ⟨Int.emod_nonneg _ (by decide),Int.emod_lt_of_pos _ (by decide)⟩,rfl⟩
 rintro ys ec ⟨ws,rfl,hl,hw,rfl⟩;rw [lA] at hl;walk_at "n";walk_at "pp";refine BR rfl ?_;refine gR (fun j ys ec=>∃ fs:List Fc,ys=fs.map Fc.enc/\fs.length=j/\(∀ f∈fs,f.sm)/\ec=[.dat (.str abt)]) ⟨[],rfl,rfl,fun a h=>by simp at h,rfl⟩ ?_ ?_
 ·rintro j d ys ec hd ⟨fs,rfl,hfl,hfs,rfl⟩;rw [Jd] at hd;obtain ⟨w,hwj,rfl⟩:=Jp.mp hd;have hw':=hw w (Jn hwj);have b1:0<=w / 20:=Int.ediv_nonneg hw'.1 (by decide);have b2:w / 20 < 20:=by omega
  have b3:0<=w % 20:=Int.emod_nonneg _ (by decide);have b4:w % 20 < 20:=Int.emod_lt_of_pos _ (by decide);refine kh ?_;walk_at "pp";refine zu rfl (xB b1 b2) ?_;walk_at "pp";refine zu rfl (xB b3 b4) ?_;walk_at "pp";have n1:Nam ("a" ++ ⟨#[97+(w / 20).toNat]⟩):=⟨vi (by unfold Ltr;decide) (E2 b1 (by omega)),by rw [jc,ee];decide,by rw [jc,ee];decide⟩;have n2:Nam "b" := ⟨by unfold Ltr;decide,by decide,by decide⟩;have n3:Nd.sm (.bO ⟨#[97+(w % 20).toNat]⟩):=⟨E2 b3 (by omega),by rw [ee];decide,by rw [ee];decide⟩;exact ⟨fs++[⟨"a" ++ ⟨#[97+(w / 20).toNat]⟩, "b", .bO ⟨#[97+(w % 20).toNat]⟩⟩],by rw [J6];rfl,by rw [IJ,hfl];rfl,gf hfs ⟨n1,n2,n3⟩,rfl⟩
 ·rintro ys ec ⟨fs,rfl,hfl,hfs,rfl⟩;rw [IK,hl] at hfl;walk_at "pp";exact q fs pn2 (hP2.mono (by omega)) (by omega) (by omega) hfs
def chB (c:Nat):Bool:=decide (97<=c)&&decide (c<=122)
def rn (d:PyData) (k:Int):Bool:=match d with
 | .str x=>decide (k<=(x.length:Int))&&(decide ((x.length:Int)<=8)&&x.cps.toList.all chB)
 | _=>false
theorem Hw (c:Nat):leS (Str.ofString "a") ⟨#[c]⟩=decide (97<=c):=by
 have e:(Str.ofString "a").cps.toList=[97]:=by decide +kernel
 unfold leS;rw [e];by_cases h:97<=c
 ·rw [Jr h,Jz]
  ·rfl
  ·intro z;have:c < 97:=by simpa [Lp] using z
   omega
 ·rw [Jz h,Jr]
  ·rfl
  ·simp [Lp];omega
theorem Ip (c:Nat):leS ⟨#[c]⟩ (Str.ofString "z")=decide (c<=122):=by
 have e:(Str.ofString "z").cps.toList=[122]:=by decide +kernel
 unfold leS;rw [e];by_cases h:c<=122
 ·rw [Jr h,Jz]
  ·rfl
  ·intro z;have:122 < c:=by simpa [Lp] using z
   omega
 ·rw [Jz h,Jr]
  ·rfl
  ·simp [Lp];omega
theorem fq {d:PyData} {k:Int} {Q:PR->List PyData->Prop} (q:Q (.dat (.bool (rn d k))) []):WF cn [d,.int k] Q:=by
 refine gN rfl ?_;unfold cU;cases d with
 | str x =>
  replace q:Q (.dat (.bool (decide (k<=(x.length:Int))&&(decide ((x.length:Int)<=8)&&x.cps.toList.all chB)))) []:=q;walk_at "pp";refine jW (fun c1=>?_) (fun c1=>?_)
  ·have c1:decide (k<=(x.length:Int))=true:=c1;walk_at "pp";rw [c1,KH] at q;refine jW (fun c2=>?_) (fun c2=>?_)
   ·have c2:(!decide ((x.length:Int)<=8))=true:=c2;have c2:decide ((x.length:Int)<=8)=false:=by simpa using c2
    walk_at "pp";rw [c2] at q;exact q
   ·have c2:(!decide ((x.length:Int)<=8))=false:=c2;have c2:decide ((x.length:Int)<=8)=true:=by simpa using c2
    rw [c2,KH] at q;walk_at "pp";refine gR (fun i ys ec=>ys=((x.cps.toList.take i).map chB).map .bool/\ec=[]) ⟨rfl,rfl⟩ ?_ ?_
    ·rintro i d ys ec hd ⟨rfl,rfl⟩;rw [Jd] at hd;obtain ⟨c,hc,rfl⟩:=Jp.mp hd;have e0:((x.cps.toList.take (i+1)).map chB).map PyData.bool=((x.cps.toList.take i).map chB).map PyData.bool++[.bool (chB c)]:=by rw [<- take_snoc hc,J6,J6];rfl
     refine kh ?_;walk_at "pp";have e1:=Hw c;have e2:=Ip c;refine jW (fun d1=>?_) (fun d1=>?_)
     ·have d1:leS (Str.ofString "a") ⟨#[c]⟩=true:=d1;walk_at "pp";refine ⟨?_,rfl⟩;rw [e0];unfold chB;rw [<- e1,d1,<-e2];rfl
     ·have d1:leS (Str.ofString "a") ⟨#[c]⟩=false:=d1;walk_at "pp";refine ⟨?_,rfl⟩;rw [e0];unfold chB;rw [<- e1,d1];rfl
    ·rintro ys ec ⟨rfl,rfl⟩;rw [IK,Kz];walk_at "n";walk_at "pp";refine w_all (bs:=x.cps.toList.map chB) rfl ?_;have e3:(x.cps.toList.map chB).all id=x.cps.toList.all chB:=by rw [List.all_map];rfl
     rw [e3];walk_at "pp";exact q
  ·have c1:decide (k<=(x.length:Int))=false:=c1;walk_at "pp";rw [c1] at q;exact q
 | _ =>
  walk_at "pp";exact q
theorem gE {d:PyData} {Q:PR->List PyData->Prop} (q:Q (.dat (.bool (rn d 1))) []):WF dq [d] Q:=by
 refine gN rfl ?_;unfold g8;walk_at "pp";refine ar (is:=[]) rfl rfl (fq ⟨rfl,?_⟩);walk_at "pp";exact q
def whB:PyData->Bool
 | .int _=>true
 | _=>false
theorem n0 {d:PyData} {Q:PR->List PyData->Prop} (q:Q (.dat (.bool (whB d))) []):WF fD [d] Q:=by
 refine gN rfl ?_;unfold fI;cases d <;> (walk_at "pp"; exact q)
def Ey:PyData->Bool
 | .int i=>decide ((if i < 0 then -i else i)<=999999999999999999999999999999)
 | _=>false
theorem mY {d:PyData} {Q:PR->List PyData->Prop} (q:Q (.dat (.bool (Ey d))) []):WF eK [d] Q:=by
 refine gN rfl ?_;unfold eO;walk_at "pp";refine ar (is:=[]) rfl rfl (n0 ⟨rfl,?_⟩);cases d <;> (walk_at "pp"; exact q)
def yP:PyData->Bool
 | .tuple [x]=>rn x 0
 | _=>false
theorem qz {d:PyData} {Q:PR->List PyData->Prop} (q:Q (.dat (.bool (yP d))) []):WF gM [d] Q:=by
 refine gN rfl ?_;unfold gF;cases d with
 | tuple ds =>
  match ds,q with
  | [],q=>walk_at "pp"; exact q
  | [x],q =>
   walk_at "pp";refine ar (is:=[]) rfl rfl (fq ⟨rfl,?_⟩);walk_at "pp";exact q
  | x :: y :: r,q =>
   walk_at "pp";exact q
 | _ =>
  walk_at "pp";exact q
def oh (d:PyData):Bool:=rn d 1||(Ey d||yP d)
theorem qE {d:PyData} {Q:PR->List PyData->Prop} (q:Q (.dat (.bool (oh d))) []):WF gU [d] Q:=by
 refine gN rfl ?_;unfold gH;unfold oh at q;walk_at "pp";refine ar (is:=[]) rfl rfl (gE ⟨rfl,?_⟩);walk_at "pp";refine jW (fun c=>?_) (fun c=>?_)
 ·rw [c,Bool.true_or] at q;walk_at "pp";exact q
 ·rw [c,Bool.false_or] at q;walk_at "pp";refine ar (is:=[]) rfl rfl (mY ⟨rfl,?_⟩);walk_at "pp";refine jW (fun c=>?_) (fun c=>?_)
  ·rw [c,Bool.true_or] at q;walk_at "pp";exact q
  ·rw [c,Bool.false_or] at q;walk_at "pp";refine ar (is:=[]) rfl rfl (qz ⟨rfl,?_⟩);walk_at "pp";exact q
abbrev Srt (L:List Fc):Prop:=L.Pairwise fun x y=>gZ x y=true
theorem yX (a:Fc):gZ a a=false:=ug _
theorem CF {a b c:Fc} (h1:gZ a b=true) (h2:gZ b c=true):gZ a c=true:=x9 h1 h2
theorem zQ {a b:Fc} (h:gZ a b=false) (h2:gZ b a=false):a=b:=by
 apply KC;intro hn;have:=r8 (fun z=>hn (o7 z)) h;unfold gZ at h2;rw [this] at h2;cases h2
theorem jT {L:List Fc} (h:Srt L):L.Nodup:=h.imp fun {a b} z e=>by rw [e,yX] at z;cases z
abbrev kvs (U:List Fc):List (PyData×PyData):=U.map fun a=>(a.enc,PyData.bool true)
theorem BB {U:List Fc} {a:Fc} (h:a∈U):putD (kvs U) a.enc (.bool true)=kvs U:=by
 unfold putD;rw [IX (by rw [Li];exact ⟨_,JB.mpr ⟨a,h,rfl⟩,mw a⟩),KA];refine List.map_congr_left fun b _=>?_;show (if PyData.eqv b.enc a.enc=true then (b.enc,PyData.bool true) else (b.enc,PyData.bool true))=_;split <;> rfl
theorem yQ {U:List Fc} {a:Fc} (h:a ∉ U):putD (kvs U) a.enc (.bool true)=kvs (U++[a]):=by
 unfold putD;rw [IV (fun z=>?_)]
 ·unfold kvs;rw [J6];rfl
 ·rw [Li] at z;obtain ⟨x,hx,e⟩:=z;obtain ⟨b,hb,rfl⟩:=JB.mp hx;have:=vT (a:=b) (b:=a) e;exact h (this▸hb)
theorem vO (a:Fc):Sg.Dz fyS cc a.enc=some a.key:=by
 obtain ⟨pr,outs,h,rfl,rfl⟩:=yy (a:=a) (Q:=fun pr outs=>pr=.dat (.tuple [.str a.t,.str a.b,D2 a.n.key])/\outs=[]) ⟨rfl,rfl⟩;unfold Sg.Dz;rw [h];rfl
theorem jd:∀ U:List Fc,Sg.kX fyS cc (U.map Fc.enc)=some (U.map Fc.key)
 | []=>rfl
 | a :: U=>by
  rw [JK,JK];unfold Sg.kX;rw [vO,jd U];rfl
theorem jh {U:List Fc} (h:U.Nodup):(U.map Fc.key).Nodup:=by
 unfold List.Nodup;rw [List.pairwise_map];exact h.imp fun {a b} z e=>z (o7 e)
theorem sy {U L:List Fc} (hU:U.Nodup) (hL:Srt L) (hm:∀ a,a∈L↔a∈U):(Sg.rX (S:=fyS) ((U.map Fc.key).zip (U.map Fc.enc))).map (·.2)=L.map Fc.enc :=
 Bq (S:=fyS) Fc.key Fc.enc (jh hU) hL ((List.perm_ext_iff_of_nodup (jT hL) hU).mpr hm)
def zw:PyData->Bool
 | .tuple [a,b,c]=>rn a 1&&(rn b 1&&oh c)
 | _=>false
theorem HY:∀ (ds:List PyData),(∃ a b c,ds=[a,b,c])\/(ds.length≠3/\zw (.tuple ds)=false)
 | []=>.inr ⟨by decide,rfl⟩
 | [a]=>.inr ⟨by simp,rfl⟩
 | [a,b]=>.inr ⟨by simp,rfl⟩
 | [a,b,c]=>.inl ⟨a,b,c,rfl⟩
 | a :: b :: c :: d :: r=>.inr ⟨by simp,rfl⟩
theorem ke {d:PyData} {Q:PR->List PyData->Prop} (q:Q (.dat (.bool (zw d))) []):WF gT [d] Q:=by
 refine gN rfl ?_;unfold gG;cases d with
 | tuple ds =>
  rcases HY ds with ⟨a,b,c,rfl⟩ | ⟨hn,hf⟩
  ·replace q:Q (.dat (.bool (rn a 1&&(rn b 1&&oh c)))) []:=q;walk_at "pp";refine ar (is:=[]) rfl rfl (gE ⟨rfl,?_⟩);walk_at "pp";refine jW (fun c1=>?_) (fun c1=>?_)
   ·rw [c1,KH] at q;walk_at "pp";refine ar (is:=[]) rfl rfl (gE ⟨rfl,?_⟩);walk_at "pp";refine jW (fun c2=>?_) (fun c2=>?_)
    ·rw [c2,KH] at q;walk_at "pp";refine ar (is:=[]) rfl rfl (qE ⟨rfl,?_⟩);walk_at "pp";exact q
    ·rw [c2] at q;walk_at "pp";exact q
   ·rw [c1] at q;walk_at "pp";exact q
  ·walk_at "pp";have hq:PyData.eqv (.int (ds.length:Int)) (.int 3)=false:=by
    simp only [PyData.eqv];rw [beq_eq_false_iff_ne];omega
   refine rC (by show (!PyData.eqv (.int (ds.length:Int)) (.int 3))=true;rw [hq];rfl) ?_;walk_at "pp";rw [hf] at q;exact q
 | _ =>
  walk_at "pp";exact q
theorem kY {x:Str} (h:Nam x):rn (.str x) 1=true:=by
 obtain ⟨h1,h2,h3⟩:=h;show (decide ((1:Int)<=(x.length:Int))&&(decide ((x.length:Int)<=8)&&x.cps.toList.all chB))=true;rw [Jr (by omega),Jr (by omega),KH,KH,KZ];intro c hc;have:=h1 c hc;unfold chB;rw [Jr this.1,Jr this.2];rfl
theorem wG {a:Nd} (h:a.sm):oh a.enc=true:=by
 unfold oh;cases a with
 | num n =>
  have h:-1000000000000000000000000000000 < n/\n < 1000000000000000000000000000000:=h;have:Ey (Nd.enc (.num n))=true:=by
   show decide ((if n < 0 then -n else n)<=999999999999999999999999999999)=true;refine Jr ?_;split <;> omega
  rw [this];simp
 | fY x =>
  have h:Ltr x/\x.length<=8:=h;have:yP (Nd.enc (.fY x))=true:=by
   show (decide ((0:Int)<=(x.length:Int))&&(decide ((x.length:Int)<=8)&&x.cps.toList.all chB))=true;rw [Jr (by omega),Jr (by omega),KH,KH,KZ];intro c hc;have:=h.1 c hc;unfold chB;rw [Jr this.1,Jr this.2];rfl
  rw [this];simp
 | bO x =>
  have:rn (Nd.enc (.bO x)) 1=true:=kY h;rw [this];rfl
theorem qb {f:Fc} (h:f.sm):zw f.enc=true:=by
 show (rn _ 1&&(rn _ 1&&oh _))=true;rw [kY h.1,kY h.2.1,wG h.2.2];rfl
theorem iN {U:List Fc}:(kvs U).map (·.1)=U.map Fc.enc:=by unfold kvs;rw [KA];rfl
theorem oR {ns U:List Fc} {i:Nat} {a:Fc} (hU:U.Nodup) (hM:∀ a,a∈U↔a∈ns.take i) (hz:U.length<=i) (ha:ns[i]?=some a):∃ V:List Fc,putD (kvs U) a.enc (.bool true)=kvs V/\V.Nodup/\(∀ b,b∈V↔b∈ns.take (i+1))/\V.length<=i+1:=by
 by_cases h:a∈U
 ·refine ⟨U,BB h,hU,fun b=>?_,by omega⟩;rw [<- take_snoc ha,Jx,hM b];constructor
  ·exact .inl
  ·rintro (z | z)
   ·exact z
   ·have:b=a:=by simpa using z
    rw [this];exact (hM a).mp h
 ·refine ⟨U++[a],yQ h,JQ.mpr ⟨hU,by simp,fun x hx y hy e=>?_⟩,fun b=>?_,by rw [IJ];show _+1<=_;omega⟩
  ·have:y=a:=by simpa using hy
   exact h (this▸e▸hx)
  ·rw [<- take_snoc ha,Jx,Jx,hM b]
theorem uh {ns L:List Fc} {Q:PR->List PyData->Prop} (hl:ns.length<=410) (hL:Srt L) (hm:∀ a,a∈L↔a∈ns) (q:Q (.frs (.list (L.map Fc.enc))) []):WF bx [.list (ns.map Fc.enc)] Q:=by
 refine gN rfl ?_;unfold bB;walk_at "pp";refine (.inl (Dp rfl rfl (gL (fun i e=>∃ U:List Fc,U.Nodup/\(∀ a,a∈U↔a∈ns.take i)/\U.length<=i/\vQ [some (.ro (.list (ns.map Fc.enc))),some (.own (.dict (kvs U))),none] e) ⟨[],.nil,fun a=>by simp,IY _,by walk_at "L"⟩ ?_ ?_)))
 ·rintro i d e hd ⟨U,hU,hM,hz,_⟩;walk_at "l";rw [Jd] at hd;obtain ⟨a,ha,rfl⟩:=Jp.mp hd;have hi:i < ns.length:=(IL.mp ha).1;walk_at "f";walk_at "pp";refine sV (v:=.bool true) (k:=a.enc) (kvs:=kvs U) rfl rfl (lG a) (by rw [IK];show _ < 2 ^ 24;omega) ?_;obtain ⟨V,eV,h1,h2,h3⟩:=oR hU hM hz ha;rw [eV];exact ⟨V,h1,h2,h3,by walk_at "L"⟩
 ·rintro e ⟨U,hU,hM,hz,_⟩;walk_at "l";rw [IK,Kz] at hM;rw [IK] at hz;walk_at "pp";refine ue (S:=fyS) (kvs:=kvs U) (ks:=U.map Fc.key) rfl (by rw [iN];exact jd U) (by rw [IK];omega) (jh hU) ?_;intro r hr;rw [iN] at hr;rw [show r=L.map Fc.enc from hr.trans (sy hU hL fun a=>(hm a).trans (hM a).symm)];walk_at "pp";exact q
theorem yp {ns:List Fc} {Q:PR->List PyData->Prop} (hs:∀ a∈ns,a.sm) (q:Q (.dat (.bool true)) []):WF cN [.list (ns.map Fc.enc)] Q:=by
 refine gN rfl ?_;unfold cM;walk_at "pp";refine (.inl (Dp rfl rfl (gR (fun j ys ec=>ys=(List.replicate j (PyData.bool true))/\ec=[]) ⟨rfl,rfl⟩ ?_ ?_)))
 ·rintro j d ys ec hd ⟨rfl,rfl⟩;rw [Jd] at hd;obtain ⟨a,ha,rfl⟩:=Jp.mp hd;refine kh ?_;walk_at "pp";refine ar (ds:=[a.enc]) (is:=[]) rfl rfl (ke ⟨rfl,?_⟩);rw [qb (hs a (Jn ha))];walk_at "pp";refine ⟨?_,rfl⟩;rw [List.replicate_succ'];rfl
 ·rintro ys ec ⟨rfl,rfl⟩;walk_at "n";walk_at "pp";refine w_all (bs:=List.replicate _ true) (by rw [List.map_replicate];rfl) ?_;rw [show ∀ n,(List.replicate n true).all id=true from fun n=>by simp];walk_at "pp";exact q
theorem rW {ns L:List Fc} {Q:PR->List PyData->Prop} (hl:ns.length<=410) (hL:Srt L) (hm:∀ a,a∈L↔a∈ns) (q:Q (.frs (.list (L.map Fc.enc))) []):WF bx [.tuple (ns.map Fc.enc)] Q:=by
 refine gN rfl ?_;unfold bB;walk_at "pp";refine (.inr ⟨_,rfl,(gL (fun i e=>∃ U:List Fc,U.Nodup/\(∀ a,a∈U↔a∈ns.take i)/\U.length<=i/\vQ [some (.dat (.tuple (ns.map Fc.enc))),some (.own (.dict (kvs U))),none] e) ⟨[],.nil,fun a=>by simp,IY _,by walk_at "L"⟩ ?_ ?_)⟩)
 ·rintro i d e hd ⟨U,hU,hM,hz,_⟩;walk_at "l";rw [Jd] at hd;obtain ⟨a,ha,rfl⟩:=Jp.mp hd;have hi:i < ns.length:=(IL.mp ha).1;walk_at "f";walk_at "pp";refine sV (v:=.bool true) (k:=a.enc) (kvs:=kvs U) rfl rfl (lG a) (by rw [IK];show _ < 2 ^ 24;omega) ?_;obtain ⟨V,eV,h1,h2,h3⟩:=oR hU hM hz ha;rw [eV];exact ⟨V,h1,h2,h3,by walk_at "L"⟩
 ·rintro e ⟨U,hU,hM,hz,_⟩;walk_at "l";rw [IK,Kz] at hM;rw [IK] at hz;walk_at "pp";refine ue (S:=fyS) (kvs:=kvs U) (ks:=U.map Fc.key) rfl (by rw [iN];exact jd U) (by rw [IK];omega) (jh hU) ?_;intro r hr;rw [iN] at hr;rw [show r=L.map Fc.enc from hr.trans (sy hU hL fun a=>(hm a).trans (hM a).symm)];walk_at "pp";exact q
theorem zh {ns:List Fc} {Q:PR->List PyData->Prop} (hs:∀ a∈ns,a.sm) (q:Q (.dat (.bool true)) []):WF cN [.tuple (ns.map Fc.enc)] Q:=by
 refine gN rfl ?_;unfold cM;walk_at "pp";refine (.inr ⟨_,rfl,(gR (fun j ys ec=>ys=(List.replicate j (PyData.bool true))/\ec=[]) ⟨rfl,rfl⟩ ?_ ?_)⟩)
 ·rintro j d ys ec hd ⟨rfl,rfl⟩;rw [Jd] at hd;obtain ⟨a,ha,rfl⟩:=Jp.mp hd;refine kh ?_;walk_at "pp";refine ar (ds:=[a.enc]) (is:=[]) rfl rfl (ke ⟨rfl,?_⟩);rw [qb (hs a (Jn ha))];walk_at "pp";refine ⟨?_,rfl⟩;rw [List.replicate_succ'];rfl
 ·rintro ys ec ⟨rfl,rfl⟩;walk_at "n";walk_at "pp";refine w_all (bs:=List.replicate _ true) (by rw [List.map_replicate];rfl) ?_;rw [show ∀ n,(List.replicate n true).all id=true from fun n=>by simp];walk_at "pp";exact q
theorem nX {ns L:List Fc} {Q:PR->List PyData->Prop} (hs:∀ a∈ns,a.sm) (hl:ns.length<=410) (hL:Srt L) (hm:∀ a,a∈L↔a∈ns) (h4:L.length<=400) (q:Q (.dat (.tuple (L.map Fc.enc))) []):WF cv [.list (ns.map Fc.enc)] Q:=by
 refine gN rfl ?_;unfold gi;walk_at "pp";refine ar (ds:=[.list (ns.map Fc.enc)]) (is:=[]) rfl rfl (yp hs ⟨rfl,?_⟩);walk_at "pp";refine ar (ds:=[.list (ns.map Fc.enc)]) (is:=[]) rfl rfl (uh hl hL hm ⟨rfl,?_⟩);walk_at "pp";refine mO (Jz (by rw [IK];omega)) ?_;walk_at "pp";exact q
theorem uy {ns L:List Fc} {Q:PR->List PyData->Prop} (hs:∀ a∈ns,a.sm) (hl:ns.length<=410) (hL:Srt L) (hm:∀ a,a∈L↔a∈ns) (h4:L.length<=400) (q:Q (.dat (.tuple (L.map Fc.enc))) []):WF cv [.tuple (ns.map Fc.enc)] Q:=by
 refine gN rfl ?_;unfold gi;walk_at "pp";refine ar (ds:=[.tuple (ns.map Fc.enc)]) (is:=[]) rfl rfl (zh hs ⟨rfl,?_⟩);walk_at "pp";refine ar (ds:=[.tuple (ns.map Fc.enc)]) (is:=[]) rfl rfl (rW hl hL hm ⟨rfl,?_⟩);walk_at "pp";refine mO (Jz (by rw [IK];omega)) ?_;walk_at "pp";exact q
theorem getD_in {U:List Fc} {a:Fc} (h:a∈U):(L2.getD (kvs U) a.enc).isSome=true:=by
 unfold L2.getD;rw [Option.isSome_map,List.find?_isSome];exact ⟨(a.enc,.bool true),JB.mpr ⟨a,h,rfl⟩,mw a⟩
theorem EW {e:En} {x y:AV} {d:PyData} {m:List (PyData×PyData)} {Q:RV->En->Prop} (h1:bG e [x,y]=some [d,.dict m]) (h2:hk6 d=true) (h3:(L2.getD m d).isSome=true) (q:Q (.dat (.bool false)) e):WPr (Dr true) [x,y] e Q:=by
 refine ⟨_,.dat (.bool false),h1,?_,q⟩;show (if hk6 d=true then some (PR.dat (.bool (if true=true then !(L2.getD m d).isSome else (L2.getD m d).isSome))) else none)=_;rw [IX h2,IX rfl,h3];rfl
theorem o6 {ns L:List Fc} {Q:PR->List PyData->Prop} (hl:ns.length<=410) (hL:Srt L) (hm:∀ a,a∈L↔a∈ns) (q:Q (.dat (.bool true)) []):WF iW [.tuple (L.map Fc.enc),.list (ns.map Fc.enc)] Q:=by
 refine gN rfl ?_;unfold lO;walk_at "pp";refine BR rfl (gL (fun i e=>∃ U:List Fc,U.Nodup/\(∀ a,a∈U↔a∈ns.take i)/\U.length<=i/\vQ [some (.dat (.tuple (L.map Fc.enc))),some (.dat (.list (ns.map Fc.enc))),some (.own (.dict (kvs U))),none,none] e) ⟨[],.nil,fun a=>by simp,IY _,by walk_at "L"⟩ ?_ ?_)
 ·rintro i d e hd ⟨U,hU,hM,hz,_⟩;walk_at "l";rw [Jd] at hd;obtain ⟨a,ha,rfl⟩:=Jp.mp hd;have hi:i < ns.length:=(IL.mp ha).1;walk_at "f";walk_at "pp";refine sV (v:=.bool true) (k:=a.enc) (kvs:=kvs U) rfl rfl (lG a) (by rw [IK];show _ < 2 ^ 24;omega) ?_;obtain ⟨V,eV,h1,h2,h3⟩:=oR hU hM hz ha;rw [eV];exact ⟨V,h1,h2,h3,by walk_at "L"⟩
 ·rintro e ⟨U,hU,hM,hz,_⟩;walk_at "l";rw [IK,Kz] at hM;rw [IK] at hz;have hLU:∀ a,a∈L↔a∈U:=fun a=>(hm a).trans (hM a).symm;have elen:L.length=U.length:=((List.perm_ext_iff_of_nodup (jT hL) hU).mpr hLU).length_eq;walk_at "pp";refine mO (by simp [PyData.eqv,elen]) ?_;walk_at "pp";refine ⟨⟨by rw [IK];omega,by rw [IK];omega⟩,?_⟩;refine gL (fun i e=>vQ [some (.dat (.tuple (L.map Fc.enc))),some (.dat (.list (ns.map Fc.enc))),some (.own (.dict (kvs U))),none,none] e) (by walk_at "L") ?_ ?_
  ·rintro i d e hd _;walk_at "l";obtain ⟨rfl,hi⟩:=jN hd;walk_at "f";rw [IK,Int.toNat_natCast] at hi;have g1:=II hi;have a1:atI (L.map Fc.enc) (i:Int)=some (L[i]).enc:=i9 (by rw [Jd,g1];rfl);have mU:L[i]∈U:=(hLU _).mp (Lf hi);have nb:isB (L[i]).n.enc=false:=by cases (L[i]).n <;> rfl
   walk_at "pp";refine tj rfl a1 ?_;walk_at "pp";refine tj rfl a1 ?_;walk_at "pp";refine EW rfl (lG _) (getD_in mU) ?_;walk_at "pp";refine tj rfl a1 ?_;walk_at "pp";refine mO nb ?_;walk_at "pp";refine jW (fun c1=>?_) (fun c1=>?_)
   ·have c1:(0:Int) < (i:Int):=JM c1;have hi':i - 1 < L.length:=by omega
    have g0:=II hi';have a0:atI (L.map Fc.enc) ((i:Int) - 1)=some (L[i - 1]).enc:=by
     rw [show (i:Int) - 1=((i - 1:Nat):Int) by omega];exact i9 (by rw [Jd,g0];rfl)
    have hlt:gZ (L[i - 1]) (L[i])=true:=J7.mp hL (i - 1) i hi' hi (by omega);walk_at "pp";refine tj rfl a0 ?_;walk_at "pp";refine tj rfl a1 ?_;walk_at "pp";refine ar (ds:=[(L[i - 1]).enc,(L[i]).enc]) (is:=[]) rfl rfl (uv ⟨rfl,?_⟩);rw [hlt];walk_at "pp";walk_at "L"
   ·walk_at "pp";walk_at "L"
  ·rintro e _;walk_at "l";walk_at "pp";exact q
theorem lK (a:Fc):∀ {L:List Fc},Srt L->L.filter (fun b=>gZ b a)++L.filter (fun b=>!gZ b a)=L
 | [],_=>rfl
 | x :: r,h=>by
  obtain ⟨h1,h2⟩:=J9.mp h;by_cases hx:gZ x a=true
  ·rw [List.filter_cons_of_pos (p:=fun b=>gZ b a) hx,List.filter_cons_of_neg (by simp [hx]),Lh,lK a h2]
  ·have hx:gZ x a=false:=by simpa using hx
   have hr:r.filter (fun b=>gZ b a)=[]:=by
    rw [List.filter_eq_nil_iff];intro y hy hya;rw [CF (h1 y hy) hya] at hx;cases hx
   have hq:r.filter (fun b=>!gZ b a)=r:=by
    have:=lK a h2;rw [hr] at this;exact this
   rw [List.filter_cons_of_neg (by simp [hx]),List.filter_cons_of_pos (by simp [hx]),hr,hq];rfl
theorem zZ {F G:List Fc} {a:Fc} (h:Srt (F++G)) (h1:∀ f∈F,gZ f a=true) (h2:∀ g∈G,gZ a g=true):Srt (F++a :: G):=by
 obtain ⟨p1,p2,p3⟩:=Jh.mp h;refine Jh.mpr ⟨p1,J9.mpr ⟨h2,p2⟩,fun f hf g hg=>?_⟩;rcases Jo.mp hg with rfl | hg
 ·exact h1 f hf
 ·exact p3 f hf g hg
theorem xm:∀ gs:List Fc,∃ L:List Fc,Srt L/\∀ a,a∈L↔a∈gs
 | []=>⟨[],.nil,fun _=>Iff.rfl⟩
 | a :: gs=>by
  obtain ⟨L,hL,hm⟩:=xm gs;by_cases h:a∈L
  ·exact ⟨L,hL,fun b=>by
    rw [Jo,<-hm b]
    exact ⟨.inr,fun z=>z.elim (fun e=>e▸h) id⟩⟩
  ·have eL:=lK a hL;have h1:∀ f∈L.filter (fun b=>gZ b a),gZ f a=true:=fun f hf=>(List.mem_filter.mp hf).2;have h2:∀ g∈L.filter (fun b=>!gZ b a),gZ a g=true:=fun g hg=>by
    obtain ⟨z1,z2⟩:=List.mem_filter.mp hg;rw [La] at z2;cases e:gZ a g with
    | true=>rfl
    | false=>exact absurd (zQ e z2▸z1) h
   generalize L.filter (fun b=>gZ b a)=F at eL h1;generalize L.filter (fun b=>!gZ b a)=G at eL h2;subst eL;refine ⟨F++a :: G,zZ hL h1 h2,fun b=>?_⟩;rw [Jo,<-hm b,Jx,Jx,Jo];exact ⟨fun z=>z.elim (fun z=>.inr (.inl z)) fun z=>z.elim .inl fun z=>.inr (.inr z),fun z=>z.elim (fun z=>.inr (.inl z)) fun z=>z.elim .inl fun z=>.inr (.inr z)⟩
theorem ll (xs:List Fc):ip (.tuple (xs.map Fc.enc))=true:=by
 refine ud ?_ (Ju (i4 (k:=3) fun d hd=>?_) (by omega))
 ·simp only [noD];exact lR.mpr fun d hd=>by
   obtain ⟨x,_,rfl⟩:=JB.mp hd;exact qa x
 ·obtain ⟨x,_,rfl⟩:=JB.mp hd;exact lx x
theorem v5 {ns:List Int} (hl:ns.length<=63):WF xQ [.list (ns.map .int)] fun pr outs=>pr=.dat (.bool true)/\outs=[]:=by
 refine gN rfl ?_;unfold sd;walk_at "pp";refine ar rfl rfl (BC ⟨rfl,?_⟩);have hP:cS ns 0 (yF ns 0 0):=⟨0,0,rfl,by decide,by decide,by decide⟩;generalize yF ns 0 0=pn at hP;walk_at "pp";refine ar (ds:=[pn]) (is:=[1]) rfl rfl (wz hP (by omega) fun fs pn1 hP1 hfl hs=>⟨rfl,?_⟩);walk_at "n";walk_at "pz";with_reducible refine xn fun N eN=>?_
 have rest:∀ (gs fs:List Fc) (pn2:PyData),gs.length<=410->fs.length<=400->(∀ a∈gs,a∈fs)->(∀ a∈gs,a.sm)->N ([.dat (.list (ns.map .int)),.own pn2,.dat (.list (gs.map Fc.enc)),.un,.un]:En):=by
  intro gs fs pn2 hg hf hsub hs;obtain ⟨L,hL,hm⟩:=xm gs;have h4:L.length<=400:=Ju ((jT hL).length_le_of_subset fun a ha=>hsub a ((hm a).mp ha)) hf;have hsL:∀ a∈L,a.sm:=fun a ha=>hs a ((hm a).mp ha);rw [eN];walk_at "pp";refine ar (ds:=[.list (gs.map Fc.enc)]) (is:=[]) rfl rfl (nX hs hg hL hm h4 ⟨rfl,?_⟩);walk_at "n";walk_at "ps";refine AD rfl (wa gs) ?_;walk_at "pp";refine ar (ds:=[.tuple (L.map Fc.enc),.list (gs.map Fc.enc)]) (is:=[]) rfl rfl (o6 hg hL hm ⟨rfl,?_⟩);walk_at "pp";refine ar (ds:=[.tuple (L.map Fc.enc),.list (gs.map Fc.enc)]) (is:=[]) rfl rfl (o6 hg hL hm ⟨rfl,?_⟩);walk_at "pp";refine ar (ds:=[.list (([]:List Fc).map Fc.enc)]) (is:=[]) rfl rfl (nX (L:=[]) (fun a z=>by cases z) (by decide) .nil (fun _=>Iff.rfl) (by decide) ⟨rfl,?_⟩);walk_at "ps";refine AD rfl rfl ?_;walk_at "pp";rw [<- List.map_reverse];refine ar (ds:=[.list (gs.reverse.map Fc.enc)]) (is:=[]) rfl rfl (nX (fun a ha=>hs a (J4.mp ha)) (by rw [Ko];exact hg) hL (fun a=>by rw [J4];exact hm a) h4 ⟨rfl,?_⟩);walk_at "ps";refine zo rfl (ll L) ?_;walk_at "pp";refine ar (ds:=[.tuple (gs.map Fc.enc)]) (is:=[]) rfl rfl (uy hs hg hL hm h4 ⟨rfl,?_⟩);walk_at "ps";refine zo rfl (ll L) ?_;walk_at "pp";refine ar (ds:=[.tuple (L.map Fc.enc)]) (is:=[]) rfl rfl (uy hsL (by omega) hL (fun _=>Iff.rfl) h4 ⟨rfl,?_⟩);walk_at "ps";refine zo rfl (ll L) ?_;walk_at "pp";exact ⟨rfl,rfl⟩
 walk_at "d";intro w1 pn2 hP2 w10 w11;walk_at "n";walk_at "pp";refine jW (fun c1=>?_) (fun c1=>?_)
 ·walk_at "pp";refine ar (ds:=[pn2]) (is:=[1]) rfl rfl (yE hP2 (by omega) fun fs pn3 hP3 h0 hf hs=>⟨rfl,?_⟩);walk_at "n";walk_at "d";intro w4 pn4 hP4 w40 w41;walk_at "n";walk_at "pp";refine ⟨⟨by omega,by omega⟩,?_⟩;have l1:(0:Int) < ((fs.map Fc.enc).length:Nat):=by rw [IK];omega
  have l2:(((fs.map Fc.enc).length:Nat):Int) < 2 ^ 200:=by rw [IK];omega
  refine gR (fun j ys ec=>∃ (xs:List Fc) (pn':PyData),ys=xs.map Fc.enc/\xs.length=j/\(∀ x∈xs,x∈fs)/\cS ns (2000+j) pn'/\ec=[.dat (.list (fs.map Fc.enc)),.ino pn']) ⟨[],pn4,rfl,rfl,fun a h=>by simp at h,hP4.mono (by omega),rfl⟩ ?_ ?_
  ·rintro j d ys ec hd ⟨xs,pn',rfl,hx,hs2,hP',rfl⟩;obtain ⟨rfl,hj⟩:=jN hd;refine kh ?_;walk_at "d";intro w5 pn5 hP5 w50 w51;walk_at "n";walk_at "pp";obtain ⟨d3,hd3,ed3⟩:=atV (xs:=fs.map Fc.enc) w50 w51;obtain ⟨f,hf3,rfl⟩:=JB.mp hd3;refine vj rfl ed3 ?_;walk_at "pp";exact ⟨xs++[f],pn5,by rw [J6];rfl,by rw [IJ,hx];rfl,gf hs2 hf3,hP5.mono (by omega),rfl⟩
  rintro ys ec ⟨xs,pn5,rfl,hx,hs2,hP5,rfl⟩;rw [lA] at hx;walk_at "n";walk_at "pp";refine Bn rfl (by rw [IK,IK];show _<=2 ^ 24;omega) ?_;rw [<- J6];walk_at "pp";exact rest (fs++xs) fs pn5 (by rw [IJ];omega) hf (fun a ha=>(Jx.mp ha).elim id (hs2 a)) (fun a ha=>hs a ((Jx.mp ha).elim id (hs2 a)))
 ·walk_at "pp";exact rest fs fs pn2 (by omega) (by omega) (fun _ z=>z) hs
end K06
end
namespace PySem.W.Fast
def tw18427569870378340673:=()
def tw184110867769984099:=()
def tw907309359424174861:=()
def tw7571636575528588094:=()
def tw11916590425396857792:=()
def tw5750565966181121284:=()
def tw8608116830291155374:=()
def tw1293177981505632200:=()
def tw1916070624123876397:=()
def tw15382572971990040975:=()
def tw5865731986848419281:=()
def tw10774923240311681698:=()
def tw10566303702464270643:=()
def tw2436834044709158067:=()
def tw5550071347318785526:=()
def tw5926292611175006848:=()
def tw2471094351163318990:=()
def tw6119948402993849471:=()
def tw3192972933143607508:=()
def tw10706158915162381910:=()
def tw6827903039631640117:=()
def tw13425963957031216561:=()
def tw14434710940616717499:=()
def tw11034255019018314959:=()
def tw12203071139180082157:=()
end PySem.W.Fast
open PySem PySem.W PyProof.Rows
set_option maxRecDepth 100000 in
set_option maxHeartbeats 0 in
theorem PySem.Challenge.cw_webshapes_k06_webs_made_holds : PySem.Challenge.rw_webshapes_k06_webs_made.Holds := by
  w_on; (refine holds_law L2.ws fun fY => ?_); k_head; (case hw => w_witness2)
  k_fill
  refine L2.wj (l := PySem.Challenge.rw_webshapes_k06_webs_made) (n := 63) (k := 8) (x := "_law_script") (CX := L2.CX0) (sp := K06.uH) rfl (by decide) rfl ⟨rfl, by decide, by decide, rfl⟩ (fun w h Y => PySem.W.kIn_of Y) ?F ?S ?C
  case F =>
    intro w mg fa h KX G hmg;have TT : ∃ t : K06.Adr, (∀ (s : Shared) (u : Value), BindsTo s t.oJ ⟨[u], []⟩ [("_law_script", u)]) ∧ K06.Txt (L2.KOf KX) mg t := by
      dsimp only [L2.KOf];refine' K06.BW KX G ?a0 ?l0 ?c0 ?k0 ?a1 ?l1 ?c1 ?k1 ?a2 ?l2 ?c2 ?k2 ?a3 ?l3 ?c3 ?k3 ?a4 ?l4 ?c4 ?k4 ?a5 ?l5 ?c5 ?k5 ?a6 ?l6 ?c6 ?k6 ?a7 ?l7 ?c7 ?k7 ?a8 ?l8 ?c8 ?k8 ?a9 ?l9 ?c9 ?k9 ?a10 ?l10 ?c10 ?k10 ?a11 ?l11 ?c11 ?k11 ?a12 ?l12 ?c12 ?k12 ?a13 ?l13 ?c13 ?k13 ?a14 ?l14 ?c14 ?k14 ?a15 ?l15 ?c15 ?k15 ?a16 ?l16 ?c16 ?k16 ?a17 ?l17 ?c17 ?k17 ?a18 ?l18 ?c18 ?k18 ?a19 ?l19 ?c19 ?k19 ?a20 ?l20 ?c20 ?k20 ?a21 ?l21 ?c21 ?k21 ?a22 ?l22 ?c22 ?k22 ?a23 ?l23 ?c23 ?k23 ?a24 ?l24 ?c24 ?k24 ?z_abs ?z_all ?z_bool ?z_int ?z_isinstance ?z_len ?z_list ?z_range ?z_sorted ?z_str ?z_tuple ?g_GREATEST_NUMBER ?g_MOST_FACTS ?g_MOST_LETTERS
      (case a0 => k_is)
      (case l0 => k_is)
      (case c0 => k_is)
      (case k0 => k_is)
      (case a1 => k_is)
      (case l1 => k_is)
      (case c1 => k_is)
      (case k1 => k_is)
      (case a2 => k_is)
      (case l2 => k_is)
      (case c2 => k_is)
      (case k2 => k_is)
      (case a3 => k_is)
      (case l3 => k_is)
      (case c3 => k_is)
      (case k3 => k_is)
      (case a4 => k_is)
      (case l4 => k_is)
      (case c4 => k_is)
      (case k4 => k_is)
      (case a5 => k_is)
      (case l5 => k_is)
      (case c5 => k_is)
      (case k5 => k_is)
      (case a6 => k_is)
      (case l6 => k_is)
      (case c6 => k_is)
      (case k6 => k_is)
      (case a7 => k_is)
      (case l7 => k_is)
      (case c7 => k_is)
      (case k7 => k_is)
      (case a8 => k_is)
      (case l8 => k_is)
      (case c8 => k_is)
      (case k8 => k_is)
      (case a9 => k_is)
      (case l9 => k_is)
      (case c9 => k_is)
      (case k9 => k_is)
      (case a10 => k_is)
      (case l10 => k_is)
      (case c10 => k_is)
      (case k10 => k_is)
      (case a11 => k_is)
      (case l11 => k_is)
      (case c11 => k_is)
      (case k11 => k_is)
      (case a12 => k_is)
      (case l12 => k_is)
      (case c12 => k_is)
      (case k12 => k_is)
      (case a13 => k_is)
      (case l13 => k_is)
      (case c13 => k_is)
      (case k13 => k_is)
      (case a14 => k_is)
      (case l14 => k_is)
      (case c14 => k_is)
      (case k14 => k_is)
      (case a15 => k_is)
      (case l15 => k_is)
      (case c15 => k_is)
      (case k15 => k_is)
      (case a16 => k_is)
      (case l16 => k_is)
      (case c16 => k_is)
      (case k16 => k_is)
      (case a17 => k_is)
      (case l17 => k_is)
      (case c17 => k_is)
      (case k17 => k_is)
      (case a18 => k_is)
      (case l18 => k_is)
      (case c18 => k_is)
      (case k18 => k_is)
      (case a19 => k_is)
      (case l19 => k_is)
      (case c19 => k_is)
      (case k19 => k_is)
      (case a20 => k_is)
      (case l20 => k_is)
      (case c20 => k_is)
      (case k20 => k_is)
      (case a21 => k_is)
      (case l21 => k_is)
      (case c21 => k_is)
      (case k21 => k_is)
      (case a22 => k_is)
      (case l22 => k_is)
      (case c22 => k_is)
      (case k22 => k_is)
      (case a23 => k_is)
      (case l23 => k_is)
      (case c23 => k_is)
      (case k23 => k_is)
      (case a24 => k_is)
      (case l24 => k_is)
      (case c24 => k_is)
      (case k24 => k_is)
      (case z_abs => k_is)
      (case z_all => k_is)
      (case z_bool => k_is)
      (case z_int => k_is)
      (case z_isinstance => k_is)
      (case z_len => k_is)
      (case z_list => k_is)
      (case z_range => k_is)
      (case z_sorted => k_is)
      (case z_str => k_is)
      (case z_tuple => k_is)
      (case g_GREATEST_NUMBER => k_is)
      (case g_MOST_FACTS => k_is)
      (case g_MOST_LETTERS => k_is)
    obtain ⟨t, hb, T⟩ := TT;have e : some (Value.ref fa) = some (Value.ref t.m4) := hmg.symm.trans T.D7;have e' : fa = t.m4 := by injection e with e; injection e
    subst e';exact ⟨t.oJ, hb, fun base _ _ => K06.CI T⟩
  case S => exact fun K H a ns hl _ hS => L2.Cz rfl hl hS (by obtain ⟨pr, outs, h, rfl, rfl⟩ := K06.v5 hl; exact h)
  case C => exact fun _ _ _ _ z => z

