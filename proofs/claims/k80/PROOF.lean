import PyProof.Rows.All
import Wide.All
import OpenK.AllK
import Wide.FinOn
import Lean
import PyProof.EqAt
import PyProof.EqKinds
import PyProof.TupleCall
import PyProof.ConsumeWalk
import PyProof.EqLayable
import PyProof.ReprRoads
import PyProof.StrWalks
import PyProof.SliceStr2
import PyProof.StrLawsIn
import PyProof.StrLawsRepr
import PyProof.SliceList
import PyProof.Rows.FStr
import PyProof.CallStr
import PyProof.Rows.SeqMore
import PyProof.ListStr
import PyProof.Claim2Refuses
import PyProof.Rows.SetFrom
import PyProof.Rows.StrMeet
import PyProof.WalksMore
import PyProof.StrCalls
import PyProof.ListMulRoad
import PyProof.MaxThree
import PyProof.Rows.SumAny
import PyProof.AutoSeq1
import PyProof.StrBlock2
import PyProof.ZipIter
import PyProof.Rows.ZipGen
import PyProof.Rows.CallKwBuiltin
import PyProof.Rows.SortRuns
import KE.KIsAll
import PyProof.DictTruth
import PyProof.DictItems
import PyProof.DictItemsLoops
import KE.KDictList
import KE.KDictOf
import PyProof.DictValues
import PyProof.SetRoads
import KE.KEqDict
import PySem.Challenge.RW_webshapes_k80_webs_called_otherwise
set_option compiler.extract_closed false
set_option bootstrap.genMatcherCode false
set_option Elab.async false
set_option linter.all false
set_option maxRecDepth 100000
set_option maxHeartbeats 4000000
section
open PySem PySem.Spec PyProof.Rows PySem.W
theorem Ha:type_of% @wpAny_bind:=@wpAny_bind
theorem Hb:type_of% @List.length_map:=@List.length_map
theorem Hc:type_of% @List.getElem?_eq_getElem:=@List.getElem?_eq_getElem
theorem Hd:type_of% @List.getElem?_eq_some_iff:=@List.getElem?_eq_some_iff
theorem He:type_of% @wpAny_pure:=@wpAny_pure
theorem Hf:type_of% @List.getElem?_set_ne:=@List.getElem?_set_ne
theorem Hg:type_of% @Heap.get?_push_of_some:=@Heap.get?_push_of_some
theorem Hi:type_of% @List.getElem?_map:=@List.getElem?_map
theorem Hj:type_of% @List.mem_singleton:=@List.mem_singleton
theorem Hk:type_of% @List.mem_map:=@List.mem_map
theorem Hl:type_of% @Nat.le_refl:=@Nat.le_refl
theorem Hm:type_of% @List.mem_cons_of_mem:=@List.mem_cons_of_mem
theorem Hn:type_of% @List.mem_append_right:=@List.mem_append_right
theorem Ho:type_of% @List.getElem?_set_self:=@List.getElem?_set_self
theorem Hq:type_of% @List.length_append:=@List.length_append
theorem Hr:type_of% @List.size_toArray:=@List.size_toArray
theorem Hs:type_of% @Option.map_eq_some_iff:=@Option.map_eq_some_iff
theorem Ht:type_of% @if_pos:=@if_pos
theorem Hu:type_of% @List.mem_cons_self:=@List.mem_cons_self
theorem Hv:type_of% @if_neg:=@if_neg
theorem Hw:type_of% @Heap.lt_size:=@Heap.lt_size
theorem Hx:type_of% @List.length_cons:=@List.length_cons
theorem Hy:type_of% @Nat.lt_of_lt_of_le:=@Nat.lt_of_lt_of_le
theorem Hz:type_of% @List.mem_cons:=@List.mem_cons
theorem HA:type_of% @List.getElem?_append_right:=@List.getElem?_append_right
theorem HB:type_of% @List.mem_of_getElem?:=@List.mem_of_getElem?
theorem HC:type_of% @Heap.get?_push_size:=@Heap.get?_push_size
theorem HD:type_of% @decide_eq_true:=@decide_eq_true
theorem HE:type_of% @of_decide_eq_true:=@of_decide_eq_true
theorem HF:type_of% @List.length_set:=@List.length_set
theorem HG:type_of% @Array.getElem?_eq_getElem:=@Array.getElem?_eq_getElem
theorem HH:type_of% @List.map_append:=@List.map_append
theorem HI:type_of% @Nat.ne_of_lt:=@Nat.ne_of_lt
theorem HJ:type_of% @Nat.le_trans:=@Nat.le_trans
theorem HK:type_of% @List.mem_append:=@List.mem_append
theorem HL:type_of% @Array.length_toList:=@Array.length_toList
theorem HM:type_of% @decide_eq_false:=@decide_eq_false
theorem HN:type_of% @Bool.and_eq_true:=@Bool.and_eq_true
theorem HP:type_of% @wpAny_mono:=@wpAny_mono
theorem HQ:type_of% @Bool.false_ne_true:=@Bool.false_ne_true
theorem HR:type_of% @wpAny_holding:=@wpAny_holding
theorem HS:type_of% @PySem.W.mg_none_of:=@PySem.W.mg_none_of
theorem HU:type_of% @Option.some.inj:=@Option.some.inj
theorem HV:type_of% @wpAny_truthy_bool:=@wpAny_truthy_bool
theorem HW:type_of% @Nat.lt_irrefl:=@Nat.lt_irrefl
theorem HX:type_of% @List.map_map:=@List.map_map
theorem HY:type_of% @List.mem_append_left:=@List.mem_append_left
theorem HZ:type_of% @List.nodup_cons:=@List.nodup_cons
theorem H0:type_of% @List.getElem?_append_left:=@List.getElem?_append_left
theorem Ia:type_of% @Nat.zero_le:=@Nat.zero_le
theorem Ib:type_of% @wpAny_call_entry:=@wpAny_call_entry
theorem Ic:type_of% @Array.getD_eq_getD_getElem?:=@Array.getD_eq_getD_getElem?
theorem Ie:type_of% @List.length_range:=@List.length_range
theorem Ig:type_of% @List.getD_eq_getElem?_getD:=@List.getD_eq_getElem?_getD
theorem Ih:type_of% @Heap.get?_update_other:=@Heap.get?_update_other
theorem Ii:type_of% @wpAny_dictEpoch:=@wpAny_dictEpoch
theorem Ij:type_of% @List.mem_iff_getElem?:=@List.mem_iff_getElem?
theorem Ik:type_of% @Array.getElem?_toList:=@Array.getElem?_toList
theorem Il:type_of% @List.take_length:=@List.take_length
theorem Im:type_of% @Paired.length:=@Paired.length
theorem Io:type_of% @sizeLine_eq:=@sizeLine_eq
theorem Ip:type_of% @wpAny_newObj_type:=@wpAny_newObj_type
theorem Iq:type_of% @wpAny_dictEntries:=@wpAny_dictEntries
theorem Ir:type_of% @List.set_set:=@List.set_set
theorem Iu:type_of% @beq_self_eq_true:=@beq_self_eq_true
theorem Iv:type_of% @List.getElem_mem:=@List.getElem_mem
theorem Iw:type_of% @Bool.false_eq_true:=@Bool.false_eq_true
theorem Iy:type_of% @Heap.get?_update_self:=@Heap.get?_update_self
theorem Iz:type_of% @Classical.byContradiction:=@Classical.byContradiction
theorem IC:type_of% @take_snoc:=@take_snoc
theorem ID:type_of% @List.getElem?_inj:=@List.getElem?_inj
theorem IE:type_of% @List.all_eq_true:=@List.all_eq_true
theorem IF:type_of% @of_decide_eq_false:=@of_decide_eq_false
theorem IG:type_of% @if_false:=@if_false
theorem IH:type_of% @wpAny_rule:=@wpAny_rule
theorem II:type_of% @wpAny_forIn_list:=@wpAny_forIn_list
theorem IJ:type_of% @List.length_take:=@List.length_take
theorem IK:type_of% @List.any_eq_true:=@List.any_eq_true
theorem IL:type_of% @PySem.mem_of_lookup:=@PySem.mem_of_lookup
theorem IM:type_of% @List.map_congr_left:=@List.map_congr_left
theorem IP:type_of% @Heap.SameBut.update:=@Heap.SameBut.update
theorem IQ:type_of% @Bool.true_and:=@Bool.true_and
theorem IS:type_of% @wpAny_passesOwn:=@wpAny_passesOwn
theorem IU:type_of% @PySem.W.kia_tup:=@PySem.W.kia_tup
theorem IV:type_of% @PySem.W.kia_one:=@PySem.W.kia_one
theorem IW:type_of% @beq_iff_eq:=@beq_iff_eq
theorem IX:type_of% @wpAny_callSpecial?_slot:=@wpAny_callSpecial?_slot
theorem IY:type_of% @List.nodup_append:=@List.nodup_append
theorem IZ:type_of% @PySem.F.slot_dict_get:=@PySem.F.slot_dict_get
theorem Ja:type_of% @List.length_singleton:=@List.length_singleton
theorem Jb:type_of% @List.any_cons:=@List.any_cons
theorem Jc:type_of% @wpAny_typeNameOfWhole_keyiter:=@wpAny_typeNameOfWhole_keyiter
theorem Jd:type_of% @Around.under_plainId:=@Around.under_plainId
theorem Je:type_of% @codeAny_builtin:=@codeAny_builtin
theorem Jf:type_of% @F.slot_dict_keyiterator_next:=@F.slot_dict_keyiterator_next
theorem Jg:type_of% @if_true:=@if_true
theorem Jh:type_of% @Nat.ne_of_gt:=@Nat.ne_of_gt
theorem Ji:type_of% @wpAny_Call_Name_kw:=@wpAny_Call_Name_kw
theorem Jj:type_of% @List.perm_ext_iff_of_nodup:=@List.perm_ext_iff_of_nodup
theorem Jk:type_of% @List.pairwise_cons:=@List.pairwise_cons
theorem Jl:type_of% @List.lt_irrefl:=@List.lt_irrefl
theorem Jm:type_of% @Array.perm_iff_toList_perm:=@Array.perm_iff_toList_perm
theorem Jn:type_of% @List.pairwise_iff_getElem:=@List.pairwise_iff_getElem
theorem Jo:type_of% @List.drop_eq_getElem_cons:=@List.drop_eq_getElem_cons
theorem Jp:type_of% @decide_eq_true_eq:=@decide_eq_true_eq
theorem Jq:type_of% @List.pairwise_map:=@List.pairwise_map
theorem Jr:type_of% @Int.toNat_natCast:=@Int.toNat_natCast
theorem Js:type_of% @wpAny_typeNameOf_keyiter:=@wpAny_typeNameOf_keyiter
theorem Jt:type_of% @PySem.F.plainAttrs_dict:=@PySem.F.plainAttrs_dict
theorem Ju:type_of% @Nat.lt_succ_self:=@Nat.lt_succ_self
theorem Jv:type_of% @List.lookup_cons:=@List.lookup_cons
theorem Jw:type_of% @List.length_drop:=@List.length_drop
theorem Jx:type_of% @Nat.lt_or_ge:=@Nat.lt_or_ge
theorem Jy:type_of% @Nat.le_of_lt:=@Nat.le_of_lt
theorem Jz:type_of% @List.take_of_length_le:=@List.take_of_length_le
theorem JB:type_of% @Array.getElem?_eq_none:=@Array.getElem?_eq_none
theorem JD:type_of% @wpAny_specialOf:=@wpAny_specialOf
theorem JH:type_of% @Option.map_some:=@Option.map_some
theorem JJ:type_of% @List.find?_cons:=@List.find?_cons
theorem JK:type_of% @List.append_nil:=@List.append_nil
theorem JL:type_of% @PySem.F.type_dict_get:=@PySem.F.type_dict_get
theorem JM:type_of% @List.length_replicate:=@List.length_replicate
theorem JN:type_of% @List.getElem?_eq_none:=@List.getElem?_eq_none
theorem JQ:type_of% @List.cons_lt_cons_iff:=@List.cons_lt_cons_iff
end
section
namespace L2
abbrev Fg:=PySem.W.Frag
set_option maxRecDepth 100000 in
set_option maxHeartbeats 0 in
theorem ws:PySem.W.OpenLaw.wellSaid PySem.Challenge.rw_webshapes_k80_webs_called_otherwise=true:=by decide +kernel
open PySem PySem.Spec PyProof.Rows
abbrev Key:=Sum Int Str
noncomputable def jy:Key->Value->Bool
 | .inl k,v=>Value.isInt k v
 | .inr x,v=>Value.isStrOf x v
noncomputable def FD (w:World):Key->Int
 | .inl k=>hashInt k
 | .inr x=>hashStr w x
theorem aq:∀ {k:Key} {v:Value},jy k v=true->(∃ i t,k=Sum.inl i/\v=Value.int i t)\/(∃ x t,k=Sum.inr x/\v=Value.str x t)
 | .inl i,v,h=>by
  obtain ⟨t,e⟩:=Value.isInt_shape (k:=i) (v:=v) h;exact .inl ⟨i,t,rfl,e⟩
 | .inr x,v,h=>by
  obtain ⟨t,e⟩:=Value.isStrOf_shape (x:=x) (v:=v) h;exact .inr ⟨x,t,rfl,e⟩
theorem p0 (i:Int) (t:Tok):jy (.inl i) (.int i t)=true:=by simp [jy,Value.isInt]
theorem qB (x:Str) (t:Tok):jy (.inr x) (.str x t)=true:=by simp [jy,Value.isStrOf]
theorem BF (a b:Int):decide ((Sum.inl a:Key)=Sum.inl b)=(a==b):=by
 by_cases e:a=b
 ·subst e;simp
 ·have h:¬(Sum.inl a:Key)=Sum.inl b:=fun q=>e (Sum.inl.inj q);rw [HM h];exact (beq_eq_false_iff_ne.mpr e).symm
theorem AJ (a b:Str):decide ((Sum.inr a:Key)=Sum.inr b)=decide (a=b):=by
 by_cases e:a=b
 ·subst e;simp
 ·have h:¬(Sum.inr a:Key)=Sum.inr b:=fun q=>e (Sum.inr.inj q);rw [HM h,HM e]
theorem zB (a:Int) (b:Str):decide ((Sum.inl a:Key)=Sum.inr b)=false:=HM (fun q=>nomatch q)
theorem zR (a:Str) (b:Int):decide ((Sum.inr a:Key)=Sum.inl b)=false:=HM (fun q=>nomatch q)
noncomputable def aj (prog:Program) (w:World):PySem.KeyKind prog w Key where
 is:=jy
 hash:=FD w
 inj:=fun v a b ha hb=>by
  rcases aq ha with ⟨i,t,rfl,rfl⟩ | ⟨x,t,rfl,rfl⟩
  ·rcases aq hb with ⟨j,u,rfl,e⟩ | ⟨y,u,rfl,e⟩
   ·injection e with e1 _;rw [e1]
   ·exact nomatch e
  ·rcases aq hb with ⟨j,u,rfl,e⟩ | ⟨y,u,rfl,e⟩
   ·exact nomatch e
   ·injection e with e1 _;rw [e1]
 byValue:=fun k v h=>by
  rcases aq h with ⟨i,t,rfl,rfl⟩ | ⟨x,t,rfl,rfl⟩ <;> rfl
 pyHash:=fun hv h=>by
  rcases aq hv with ⟨i,t,rfl,rfl⟩ | ⟨x,t,rfl,rfl⟩
  ·exact wpAny_pyHash_int h
  ·exact wpAny_pyHash_str h
 eqBool:=fun hu hv h=>by
  rcases aq hu with ⟨i,t,rfl,rfl⟩ | ⟨x,t,rfl,rfl⟩
  ·rcases aq hv with ⟨j,u,rfl,rfl⟩ | ⟨y,u,rfl,rfl⟩
   ·rw [BF] at h;exact wpAny_eqBool_int h
   ·rw [zB] at h;exact SeqAt.EqAt.int_str i t y u _ _ _ _ h
  ·rcases aq hv with ⟨j,u,rfl,rfl⟩ | ⟨y,u,rfl,rfl⟩
   ·rw [zR] at h;exact SeqAt.EqAt.str_int x t j u _ _ _ _ h
   ·rw [AJ] at h;exact wpAny_eqBool_str h
 «strs»:=fun k x t v h=>by
  rcases aq h with ⟨i,u,rfl,e⟩ | ⟨y,u,rfl,e⟩
  ·exact nomatch e
  ·injection e with e1 _;subst e1;cases v <;> rfl
theorem lE (prog:Program) (w:World) (i:Int) (t:Tok):(aj prog w).is (.inl i) (.int i t)=true:=p0 i t
theorem gu (prog:Program) (w:World) (x:Str) (t:Tok):(aj prog w).is (.inr x) (.str x t)=true:=qB x t
end L2
namespace L2
open PySem PySem.Spec PyProof.Rows
inductive V where
 | non | bl (b:Bool) | int (i:Int) | str (x:Str) | byt (b:Array UInt8) | flt (b:UInt64) | ref (a:Addr) | ty (n:String)
 deriving DecidableEq
def RelV:V->Value->Prop
 | .non,u=>u=Value.none
 | .bl b,u=>u=Value.bool b
 | .int i,u=>∃ t,u=Value.int i t
 | .str x,u=>∃ t,u=Value.str x t
 | .byt b,u=>∃ t,u=Value.bytes b t
 | .flt b,u=>∃ t,u=Value.float b t
 | .ref a,u=>u=Value.ref a
 | .ty n,u=>u=Value.type n
abbrev Vals:List V->List Value->Prop:=Paired RelV
theorem Vals.length {xs:List V} {us:List Value} (r:Vals xs us):xs.length=us.length:=Im r
theorem Vals.get:∀ {xs:List V} {us:List Value} {i:Nat} {x:V},Vals xs us->xs[i]?=some x->∃ u,us[i]?=some u/\RelV x u
 | _,_,_,_,.nil,e=>by simp at e
 | _,_,0,_,.cons r _,e=>by simp at e;subst e;exact ⟨_,rfl,r⟩
 | _,_,i+1,x,.cons _ t,e=>by
  obtain ⟨u,h1,h2⟩:=Vals.get (i:=i) (x:=x) t (by simpa using e);exact ⟨u,by simpa using h1,h2⟩
theorem Vals.set {x:V} {u:Value} (r:RelV x u):∀ {xs:List V} {us:List Value} (i:Nat),Vals xs us->Vals (xs.set i x) (us.set i u)
 | _,_,_,.nil=>.nil
 | _,_,0,.cons _ t=>.cons r t
 | _,_,i+1,.cons q t=>.cons q (Vals.set r i t)
theorem Vals.append:∀ {xs ys:List V} {us ws:List Value},Vals xs us->Vals ys ws->Vals (xs++ys) (us++ws)
 | _,_,_,_,.nil,s=>s
 | _,_,_,_,.cons r t,s=>.cons r (Vals.append t s)
theorem Vals.take:∀ {xs:List V} {us:List Value} (n:Nat),Vals xs us->Vals (xs.take n) (us.take n)
 | _,_,0,_=>.nil
 | _,_,_+1,.nil=>.nil
 | _,_,n+1,.cons r t=>.cons r (Vals.take n t)
theorem Vals.drop:∀ {xs:List V} {us:List Value} (n:Nat),Vals xs us->Vals (xs.drop n) (us.drop n)
 | _,_,0,r=>r
 | _,_,_+1,.nil=>.nil
 | _,_,n+1,.cons _ t=>Vals.drop n t
def CM:Option V->Option Value->Prop
 | some v,some u=>RelV v u
 | none,none=>True
 | _,_=>False
def KV {κ:Type}:List (κ×V)->List (κ×Value)->Prop:=Paired fun (p:κ×V) (q:κ×Value)=>p.1=q.1/\RelV p.2 q.2
noncomputable def kV:Key->V
 | .inl i=>.int i
 | .inr x=>.str x
mutual
noncomputable def bu (w:World):PyData->Int
 | .int i=>hashInt i
 | .str x=>hashStr w x
 | .tuple ds=>reduceHash (Builtin.Tuple.tupleHashOf (bJ w ds))
 | _=>0
noncomputable def bJ (w:World):List PyData->List Int
 | []=>[]
 | d :: ds=>bu w d :: bJ w ds
end
def uM (w:World) (x:PyData×V×V) (e:DictEntry):Prop:=e.hash=bu w x.1/\RelV x.2.1 e.key/\RelV x.2.2 e.val
inductive HO where
 /-- a list -/
 | lst (xs:List V)
 /-- a tuple (never changes) -/
 | tup (xs:List V)
 /-- a dict whose keys are ints and texts;one whose keys are tuples of ints and texts (the empty one is both) -/
 | dK (kvs:List (Key×V)) | dT (kvs:List (List Key×V))
 /-- a dict by any hashable data: its epoch;the keys as data and as values,what they hold -/
 | dD (ep:Nat) (xs:List (PyData×V×V))
 /-- a set of ints: its members,its size -/
 | set (S:Int->Bool) (n:Nat)
 /-- an instance of the class at C,its dict at dx,its attributes -/
 | ins (C dx:Addr) (fs:List (Str×V))
 /-- the dict of the instance at x -/
 | own (x:Addr)
 /-- the dict of an exception -/
 | xd (fs:List (Str×V))
 /-- a bound method,f of x -/
 | met (f x:Addr)
 /-- a range object lo,lo+1,.. below hi -/
 | rng (lo hi:Int)
 /-- a ak that is known to the object (the script;a dict while a loop walks it): read,never written while it is so -/
 | frz (o:Obj) (u:HO)
 /-- a code object's table -/
 | tbl (ps:Array Value)
 /-- any other ak,by what is true of its one object (a def of one's own: BQ a S n:=HO.ext fun h=>..) -/
 | ext (φ:Heap->Prop)
abbrev Hp:=Addr->Option HO
noncomputable def upd (H:Hp) (a:Addr) (o:HO):Hp:=fun b=>if b=a then some o else H b
theorem ah {H:Hp} {a:Addr} {o:HO}:upd H a o a=some o:=by unfold upd;rw [Ht rfl]
theorem af {H:Hp} {a b:Addr} {o:HO} (h:b≠a):upd H a o b=H b:=by unfold upd;rw [Hv h]
theorem az {H:Hp} {a b:Addr} {o:HO} (h:H a=some o) (h':H b=none):a≠b:=by
 intro e;subst e;rw [h] at h';cases h'
section
variable (P:Program) (w:World)
def aR (H:Hp) (h:Heap) (a:Addr):HO->Prop
 | .lst xs=>xs.length<=sizeLine/\∃ (its:List Value) (n:Nat),Vals xs its/\h.get? a=some { cls:=.type "list", data:=.seq its.toArray n }
 | .tup xs=>xs.length<=sizeLine/\∃ its:List Value,Vals xs its/\IsTup h a its.toArray
 | .dK kvs=>kvs.length<=sizeLine/\(a==sysModules)=false/\∃ vs,KV kvs vs/\h.DictOf (aj P w) a vs
 | .dT kvs=>kvs.length<=sizeLine/\(a==sysModules)=false/\∃ xs:List (List Key×Addr×Value),
   Paired (fun (p:List Key×V) (q:List Key×Addr×Value)=>p.1=q.1/\H q.2.1=some (.tup (p.1.map kV))/\RelV p.2 q.2.2) kvs xs /\
   ∃ o es ep,h.get? a=some o/\o.ExactDict/\o.data=.dict es ep/\es.toList=xs.map (entryOfKey (tupleKind (aj P w)))/\(xs.map (·.1)).Nodup
 | .dD ep xs=>xs.length<=sizeLine/\(a==sysModules)=false/\(xs.map (·.1)).Nodup/\∃ o es,h.get? a=some o/\o.ExactDict/\o.data=.dict es ep/\Paired (uM w) xs es.toList
 | .set S n=>h.SetOf (intKind P w) a S n
 | .ins C dx fs=>H dx=some (.own a)/\fs.length<=1000/\dx≠a/\h.get? a=some (PySem.W.instObj C dx) /\
   ∃ mA,h.Ns1 dx mA/\(∀ f,CM (fs.lookup f) (mA f))/\PySem.Within mA (fs.map (·.1))
 | .own _=>∃ o,h.get? a=some o
 | .xd fs=>∃ mA,h.Ns1 a mA/\∀ f,CM (fs.lookup f) (mA f)
 | .rng lo hi=>∃ t u v,h.get? a=some { cls:=.type "range", data:=.fields #[.int lo t,.int hi u,.int 1 v] }
 | .frz o u=>h.get? a=some o/\aR H h a u
 | .tbl ps=>h.get? a=some { cls:=.none,data:=.fields ps }
 | .met f x=>h.get? a=some (PySem.W.methodObj (.ref f) (.ref x))
 | .ext φ=>φ h/\(∃ o,h.get? a=some o)/\∀ h1 h2:Heap,φ h1->(∀ o,h1.get? a=some o->h2.get? a=some o)->φ h2
def HOk (H:Hp) (h:Heap):Prop:=∀ a o,H a=some o->aR P w H h a o
end
section
variable {P:Program} {w:World} {H H':Hp} {h h':Heap} {a:Addr} {o:HO}
theorem aR.lt (x:aR P w H h a o):a < h.objs.size:=by
 cases o with
 | lst xs=>obtain ⟨_,_,_,_,e⟩:=x;exact Hw e
 | tup xs=>obtain ⟨_,_,_,p⟩:=x;exact p.lt
 | dK kvs=>obtain ⟨_,_,_,_,o,_,_,e,_⟩:=x;exact Hw e
 | dT kvs=>obtain ⟨_,_,_,_,o,_,_,e,_⟩:=x;exact Hw e
 | dD ep xs=>obtain ⟨_,_,_,o,_,e,_⟩:=x;exact Hw e
 | set S n=>obtain ⟨o,_,_,_,e,_⟩:=x;exact Hw e
 | ins C dx fs=>obtain ⟨_,_,_,e,_⟩:=x;exact Hw e
 | own y=>obtain ⟨_,e⟩:=x;exact Hw e
 | xd fs=>obtain ⟨_,⟨_,_,_,e,_⟩,_⟩:=x;exact Hw e
 | rng lo hi=>obtain ⟨_,_,_,e⟩:=x;exact Hw e
 | frz ob u=>obtain ⟨e,_⟩:=x;exact Hw e
 | tbl ps=>exact Hw (show h.get? a=some _ from x)
 | met f y=>exact Hw (show h.get? a=some _ from x)
 | ext φ=>obtain ⟨_,⟨_,e⟩,_⟩:=x;exact Hw e
theorem Paired.Fm {α β:Type} {F G:α->β->Prop}:∀ {l₁:List α} {l₂:List β},Paired F l₁ l₂->(∀ a b,F a b->G a b)->Paired G l₁ l₂
 | _,_,.nil,_=>.nil
 | _,_,.cons r t,f=>.cons (f _ _ r) (Paired.Fm t f)
theorem aR.kO (x:aR P w H h a o) (k:∀ b u,(b=a\/H b=some (.own a))->h.get? b=some u->h'.get? b=some u)
  (ho:∀ b,H b=some (.own a)->H' b=some (.own a)) (ht:∀ b xs,H b=some (.tup xs)->H' b=some (.tup xs)):aR P w H' h' a o:=by
 induction o with
 | lst xs=>obtain ⟨z,its,n,r,e⟩:=x;exact ⟨z,its,n,r,k _ _ (.inl rfl) e⟩
 | tup xs=>obtain ⟨z,its,r,ob,e,c⟩:=x;exact ⟨z,its,r,ob,k _ _ (.inl rfl) e,c⟩
 | dK kvs=>obtain ⟨z,y,vs,r,ob,es,ep,e,c⟩:=x;exact ⟨z,y,vs,r,ob,es,ep,k _ _ (.inl rfl) e,c⟩
 | dT kvs =>
  obtain ⟨z,y,xs,r,ob,es,ep,e,c⟩:=x;exact ⟨z,y,xs,Paired.Fm r fun p q z=>⟨z.1,ht _ _ z.2.1,z.2.2⟩,ob,es,ep,k _ _ (.inl rfl) e,c⟩
 | dD ep xs=>obtain ⟨z,y,nd,ob,es,e,c⟩:=x;exact ⟨z,y,nd,ob,es,k _ _ (.inl rfl) e,c⟩
 | set S n=>obtain ⟨ob,es,ep,t,e,c⟩:=x;exact ⟨ob,es,ep,t,k _ _ (.inl rfl) e,c⟩
 | ins C dx fs =>
  obtain ⟨d,z,ne,e,mA,⟨od,es,ep,e2,c⟩,r⟩:=x;exact ⟨ho _ d,z,ne,k _ _ (.inl rfl) e,mA,⟨od,es,ep,k _ _ (.inr d) e2,c⟩,r⟩
 | own y=>obtain ⟨ob,e⟩:=x;exact ⟨ob,k _ _ (.inl rfl) e⟩
 | xd fs=>obtain ⟨mA,⟨od,es,ep,e,c⟩,r⟩:=x;exact ⟨mA,⟨od,es,ep,k _ _ (.inl rfl) e,c⟩,r⟩
 | rng lo hi=>obtain ⟨t,u,v,e⟩:=x;exact ⟨t,u,v,k _ _ (.inl rfl) e⟩
 | frz ob u ih=>obtain ⟨e,q⟩:=x;exact ⟨k _ _ (.inl rfl) e,ih q⟩
 | tbl ps =>
  have e:h.get? a=some { cls:=.none,data:=.fields ps }:=x;show h'.get? a=some { cls:=.none,data:=.fields ps };exact k a _ (.inl rfl) e
 | met f y =>
  have e:h.get? a=some (PySem.W.methodObj (.ref f) (.ref y)):=x;show h'.get? a=some (PySem.W.methodObj (.ref f) (.ref y));exact k a _ (.inl rfl) e
 | ext φ=>obtain ⟨p,⟨o,e⟩,st⟩:=x;exact ⟨st _ _ p fun o q=>k _ _ (.inl rfl) q,⟨o,k _ _ (.inl rfl) e⟩,st⟩
theorem HOk.lt (x:HOk P w H h) (e:H a=some o):a < h.objs.size:=(x a o e).lt
theorem HOk.fresh (x:HOk P w H h) (e:h.objs.size<=a):H a=none:=by
 cases q:H a with
 | none=>rfl
 | some u=>exact absurd (Hy (x.lt q) e) (HW _)
theorem HOk.kept (x:HOk P w H h) (k:∀ b u,h.get? b=some u->h'.get? b=some u):HOk P w H h':=fun a o e =>
 (x a o e).kO (fun b u _ q=>k b u q) (fun _ q=>q) fun _ _ q=>q
theorem HOk.laid (x:HOk P w H h) (k:∀ b u,h.get? b=some u->h'.get? b=some u) (hp:h.objs.size<=a) (new:aR P w (upd H a o) h' a o):HOk P w (upd H a o) h':=fun b u e=>by
 have hn:=x.fresh hp;by_cases hb:b=a
 ·subst hb;rw [ah] at e;cases e;exact new
 ·rw [af hb] at e;exact (x b u e).kO (fun c v _ q=>k c v q) (fun c q=>by rw [af (az q hn)];exact q) fun c xs q=>by rw [af (az q hn)];exact q
end
def Rd (H:Hp) (a:Addr) (u:HO):Prop:=H a=some u\/∃ o,H a=some (.frz o u)
theorem Rd.ok {P:Program} {w:World} {H:Hp} {h:Heap} {a:Addr} {u:HO} (r:Rd H a u) (x:HOk P w H h):aR P w H h a u:=by
 rcases r with r | ⟨o,r⟩
 ·exact x a u r
 ·obtain ⟨_,q⟩:=x a _ r;exact q
def Mut:Option HO->Prop
 | some (.lst _)=>True
 | some (.dK _)=>True
 | some (.dT _)=>True
 | some (.dD _ _)=>True
 | some (.set _ _)=>True
 | some (.ins _ _ _)=>True
 | some (.ext _)=>True
 | _=>False
section
variable {P:Program} {w:World} {H:Hp} {h h':Heap} {x e:Addr} {o':HO}
theorem HOk.write (ok:HOk P w H h) (mu:Mut (H x)) (he:e=x\/H e=some (.own x)) (k:∀ b u,b≠e->h.get? b=some u->h'.get? b=some u) (heo:∃ u,h'.get? e=some u)
  (new:aR P w (upd H x o') h' x o'):HOk P w (upd H x o') h':=fun b u q=>by
 have nown:∀ c y,H c=some (.own y)->c≠x:=fun c y r z=>by subst z;rw [r] at mu;exact mu
 have ntup:∀ c xs,H c=some (.tup xs)->c≠x:=fun c xs r z=>by subst z;rw [r] at mu;exact mu
 by_cases hb:b=x
 ·subst hb;rw [ah] at q;cases q;exact new
 ·rw [af hb] at q;by_cases hbe:b=e
  ·have q':H b=some (.own x):=by
    rcases he with z | z
    ·exact absurd (hbe.trans z) hb
    ·rw [hbe];exact z
   rw [q] at q';cases q';obtain ⟨v,hv⟩:=heo;exact ⟨v,by rw [hbe];exact hv⟩
  ·refine (ok b u q).kO (fun c v hc r=>k c v ?_ r) (fun c r=>by rw [af (nown c b r)];exact r) fun c xs r=>by rw [af (ntup c xs r)];exact r
   rcases hc with rfl | hc
   ·exact hbe
   ·rintro rfl;rcases he with z | z
    ·exact nown c b hc z
    ·rw [hc] at z;cases z;exact hb rfl
end
structure Un (fs ex:List Addr) (H H':Hp) (h h':Heap):Prop where
 keep:∀ b o,h.get? b=some o->H b=none->b ∉ fs->b ∉ ex->h'.get? b=some o
 slot:∀ b o,h.get? b=some o->H b=none->b∈fs->b ∉ ex->∃ sl,h'.get? b=some { o with slots:=sl }
 free:∀ b o,h.get? b=some o->H b=none->b ∉ ex->H' b=none
 there:∀ b o,h.get? b=some o->b ∉ ex->∃ o',h'.get? b=some o'
 sV:∀ b xs,H b=some (.tup xs)->H' b=some (.tup xs)
 pG:∀ b o u,H b=some (.frz o u)->H' b=some (.frz o u)
 tU:∀ b ps,H b=some (.tbl ps)->∃ more,H' b=some (.tbl (ps++more))
section
variable {fs fs' ex ex':List Addr} {H H1 H2:Hp} {h h1 h2 h':Heap} {a x e:Addr} {o:HO}
theorem Un.any (u:Un fs ex H H1 h h1) {b:Addr} {ob:Obj} (q:h.get? b=some ob) (n:H b=none) (hx:b ∉ ex):∃ sl,h1.get? b=some { ob with slots:=sl }:=by
 by_cases hb:b∈fs
 ·exact u.slot b ob q n hb hx
 ·exact ⟨ob.slots,u.keep b ob q n hb hx⟩
theorem Un.kept (k:∀ b u,h.get? b=some u->h'.get? b=some u):Un fs ex H H h h' :=
 ⟨fun b ob q _ _ _=>k b ob q,fun b ob q _ _ _=>⟨ob.slots,k b ob q⟩,fun _ _ _ n _=>n,fun b ob q _=>⟨ob,k b ob q⟩,fun _ _ q=>q,fun _ _ _ q=>q,fun _ ps q=>⟨#[],by rw [q];simp⟩⟩
theorem Un.refl:Un fs ex H H h h:=Un.kept fun _ _ q=>q
theorem Un.laid (k:∀ b u,h.get? b=some u->h'.get? b=some u) (hp:h.objs.size<=a) (hn:H a=none):Un fs ex H (upd H a o) h h' where
 keep:=fun b u q _ _ _=>k b u q
 slot:=fun b u q _ _ _=>⟨u.slots,k b u q⟩
 free:=fun b u q n _=>by rw [af (HI (Hy (Hw q) hp))];exact n
 there:=fun b u q _=>⟨u,k b u q⟩
 sV:=fun b xs q=>by rw [af (az q hn)];exact q
 pG:=fun b u xs q=>by rw [af (az q hn)];exact q
 tU:=fun b ps q=>⟨#[],by rw [af (az q hn),q];simp⟩
theorem Un.write (mu:Mut (H x)) (he:e=x\/H e=some (.own x)) (k:∀ b u,b≠e->h.get? b=some u->h'.get? b=some u) (heo:∃ u,h'.get? e=some u):Un fs ex H (upd H x o) h h':=by
 have hx:∀ b,H b=none->b≠x:=fun b n z=>by subst z;rw [n] at mu;exact mu
 have hb:∀ b,H b=none->b≠e:=fun b n z=>by
  subst z;rcases he with r | r
  ·exact hx b n r
  ·rw [n] at r;cases r
 have hm:∀ b u,H b=some u->¬Mut (some u)->b≠x:=fun b u q nm z=>by subst z;rw [q] at mu;exact nm mu
 refine ⟨fun b u q n _ _=>k b u (hb b n) q,fun b u q n _ _=>⟨u.slots,k b u (hb b n) q⟩,fun b u q n _=>by rw [af (hx b n)];exact n,fun b u q _=>?_,
  fun b xs q=>by rw [af (hm b _ q fun z=>z)];exact q,fun b u xs q=>by rw [af (hm b _ q fun z=>z)];exact q,fun b ps q=>⟨#[],by rw [af (hm b _ q fun z=>z),q];simp⟩⟩
 by_cases hbe:b=e
 ·subst hbe;exact heo
 ·exact ⟨u,k b u hbe q⟩
end
noncomputable def trk (h:Heap) (H:Hp):List Addr:=(List.range h.objs.size).filter fun a=>(H a).isSome
noncomputable def tN (h:Heap) (H:Hp):Heap:=PySem.W.hideAll h (trk h H)
theorem rL (h:Heap) (H:Hp):(tN h H).objs.size=h.objs.size:=PySem.W.hideAll_size _ _
theorem tI {h:Heap} {H:Hp} {b:Addr} {o:Obj} (e:h.get? b=some o) (n:H b=none):(tN h H).get? b=some o :=
 PySem.W.hideAll_get _ e fun hm=>by
  have q:(H b).isSome=true:=(List.mem_filter.mp hm).2;rw [n] at q;simp at q
theorem xQ {h:Heap} {H:Hp} {b:Addr} {o:Obj} (e:(tN h H).get? b=some o):h.get? b=some o/\H b=none:=by
 have e':h.get? b=some o:=PySem.W.of_hideAll (trk h H) e;refine ⟨e',?_⟩;cases q:H b with
 | none=>rfl
 | some x =>
  have hm:b∈trk h H:=List.mem_filter.mpr ⟨List.mem_range.mpr (Hw e'),by simp [q]⟩;have z:(tN h H).get? b=none:=PySem.W.hideAll_none (trk h H) hm;rw [z] at e;cases e
noncomputable def xS (g h:Heap) (L:Addr):List (Addr×Obj):=(List.range h.objs.size).filterMap fun a=>if a=L\/(g.get? a).isSome=true then none else (h.get? a).map fun o=>(a,o)
noncomputable def rest (g h:Heap) (L d:Addr):List (Addr×Obj):=(xS g h L).filter fun p=>decide (p.1≠d)
end L2
namespace L2
open PySem PySem.Spec PyProof.Rows
structure Mod (K:Fg) (mg:Str->Option Value) (base:Heap):Prop where
 kin:K.In base
 glob:base.Ns mainGlobals mg
 blt:∃ mb,base.Ns builtinsNs mb/\∀ x:Str,x ≠ "__name__" -> mb x=bootBuiltins x
 nolimit:base.NoLimit
structure Cx where
 prog:Program
 w:World
 K:Fg
 mg:Str->Option Value
 base:Heap
 A:Around
 N:List Str
 s₀:Shared
 H₀:Hp
 env:Env
 outer:List Env
 stack:List Env
 ex:List Addr
 fn:Str->Bool
 calm:Bool
 pn:List (Addr×Obj)
 xe:Value->Shared->Prop
noncomputable def frs (l:List Env):List Addr:=l.filterMap (·.frame)
noncomputable abbrev Cx.fs (X:Cx):List Addr:=frs X.outer
def Vis (sc:Scope) (x:Str):Prop:=sc.names.lookup x=some .local\/sc.names.lookup x=some .cell\/sc.names.lookup x=some .free
def Loc (sc:Scope) (x:Str):Prop:=sc.names.lookup x=some .local\/sc.names.lookup x=some .cell
def Look (env:Env) (h:Heap) (m:Str->Option Value) (x:Str) (u:Value):Prop :=
 (env.kindOf x=some .local/\m x=some u)\/((env.kindOf x=some .cell\/env.kindOf x=some .free)/\∃ c,env.cells.lookup x=some c/\h.IsCell c (some u))
structure Cx.Ok (X:Cx):Prop where
 mod:Mod X.K X.mg X.base
 kind:X.env.scope.kind=.function
 glob:X.env.globals=mainGlobals
 blt:X.env.builtins=builtinsNs
 above:X.s₀.heap.objs.size<=X.env.locals
 inj:∀ x y c,X.env.cells.lookup x=some c->X.env.cells.lookup y=some c->x=y
 has:∀ x,(X.env.kindOf x=some .cell\/X.env.kindOf x=some .free)->∃ c,X.env.cells.lookup x=some c
 cab:∀ x c,X.fn x=true->X.env.cells.lookup x=some c->X.s₀.heap.objs.size<=c
 hd:X.calm=true->X.A.handled=none
 frames:X.A.frames=some X.stack
 stk:X.stack=X.outer\/(X.stack=X.env :: X.outer/\X.env.frame=some X.env.locals)
 exf:∀ b∈X.ex,b≠X.env.locals/\∀ x c,X.env.cells.lookup x=some c->c≠b
 bs:∀ b o,X.base.get? b=some o->X.s₀.heap.get? b=some o/\X.H₀ b=none
 bsz:X.base.objs.size<=X.s₀.heap.objs.size
 wR:∀ b o,X.base.get? b=some o->b ∉ X.ex
 yn:∀ b∈X.ex,b ∉ X.fs
 oP:X.s₀.heap.FunFrames X.base X.outer
 frf:∀ b∈X.fs,X.H₀ b=none
structure Inv (X:Cx) (pins:List (Addr×Obj)) (σ:List (Option V)) (H:Hp) (s:Shared):Prop where
 ok:X.Ok
 os:s.os=X.s₀.os
 bare:AllBare s.gens
 base:Un X.fs X.ex X.H₀ H X.s₀.heap s.heap
 loc:∃ m,s.heap.Ns X.env.locals m/\∀ (i:Nat) (x:Str) (v:V),X.N[i]?=some x->σ[i]?=some (some v)->Vis X.env.scope x->∃ u,RelV v u/\Look X.env s.heap m x u
 cell:∀ x c,X.env.cells.lookup x=some c->∃ v,s.heap.IsCell c v
 free:H X.env.locals=none
 fB:∀ x c,X.env.cells.lookup x=some c->H c=none
 pin:∀ p∈X.pn++pins,s.heap.get? p.1=some p.2/\H p.1=none/\p.1≠X.env.locals/\p.1 ∉ X.fs/\∀ v,p.2.data≠.cell v
 hok:HOk X.prog X.w H s.heap
 len:σ.length=X.N.length
section
variable {X:Cx} {pins:List (Addr×Obj)} {σ:List (Option V)} {H H':Hp} {s:Shared} {h':Heap}
theorem Cx.Ok.GX (ok:X.Ok) {b:Addr} {o:Obj} (e:X.base.get? b=some o):b ∉ X.fs:=fun hb=>by
 have:=(ok.oP.mem hb).1;rw [e] at this;cases this
theorem Inv.bs (I:Inv X pins σ H s):∀ b o,X.base.get? b=some o->s.heap.get? b=some o/\H b=none:=fun b o e =>
 ⟨I.base.keep b o (I.ok.bs b o e).1 (I.ok.bs b o e).2 (I.ok.GX e) (I.ok.wR b o e),I.base.free b o (I.ok.bs b o e).1 (I.ok.bs b o e).2 (I.ok.wR b o e)⟩
theorem Inv.bk (I:Inv X pins σ H s):∀ b o,X.base.get? b=some o->s.heap.get? b=some o:=fun b o e=>(I.bs b o e).1
theorem Inv.mod (I:Inv X pins σ H s):Mod X.K X.mg X.base:=I.ok.mod
theorem Inv.kIn (I:Inv X pins σ H s):X.K.In s.heap:=I.ok.mod.kin.keeps I.bk
theorem Inv.lt (I:Inv X pins σ H s):X.env.locals < s.heap.objs.size:=let ⟨_,hn,_⟩:=I.loc;hn.lt
theorem Inv.sz (I:Inv X pins σ H s):X.s₀.heap.objs.size<=s.heap.objs.size:=HJ I.ok.above (Jy I.lt)
theorem Inv.AZ (I:Inv X pins σ H s) {a:Addr} (h:s.heap.objs.size<=a):a ∉ X.fs:=fun hb=>by
 obtain ⟨_,o,ho,_⟩:=I.ok.oP.mem hb;exact absurd (Hy (Hw ho) (HJ I.sz h)) (HW _)
theorem Inv.cne (I:Inv X pins σ H s):∀ x c,X.env.cells.lookup x=some c->c≠X.env.locals:=fun x c e z=>by
 obtain ⟨v,o,ho,hd⟩:=I.cell x c e;obtain ⟨m,⟨o',es,ep,ho',hd',_⟩,_⟩:=I.loc;rw [z,ho'] at ho;cases ho;rw [hd'] at hd;cases hd
theorem Inv.oP (I:Inv X pins σ H s):s.heap.FunFrames X.base X.outer:=by
 have all:∀ (l:List Env),(∀ b∈frs l,b∈X.fs)->X.s₀.heap.FunFrames X.base l->s.heap.FunFrames X.base l:=by
  intro l;induction l with
  | nil=>intro _ _;trivial
  | cons env r ih =>
   intro hs hl;obtain ⟨hk,⟨L,o,hf,hn,ho,hd⟩,hr⟩:=hl;have hL:L∈X.fs:=hs L (by unfold frs;rw [List.filterMap_cons,hf];exact Hu);obtain ⟨sl,e⟩:=I.base.slot L o ho (I.ok.frf L hL) hL fun z=>I.ok.yn L z hL;exact ⟨hk,⟨L,_,hf,hn,e,hd⟩,ih (fun b hb=>hs b (by unfold frs;rw [List.filterMap_cons,hf];exact Hm _ hb)) hr⟩
 exact all X.outer (fun _ hb=>hb) I.ok.oP
theorem Inv.stack (I:Inv X pins σ H s):s.heap.FunFrames X.base X.stack:=by
 rcases I.ok.stk with e | ⟨e,hf⟩
 ·rw [e];exact I.oP
 ·rw [e];obtain ⟨m,hn,_⟩:=I.loc;refine .cons (by rw [I.ok.kind];decide) hf hn ?_ I.oP;exact Heap.get?_none_of_le (HJ I.ok.bsz I.ok.above)
theorem Inv.qe (I:Inv X pins σ H s):∀ b∈frs X.stack,b∈X.env.locals :: X.fs:=fun b hb=>by
 rcases I.ok.stk with e | ⟨e,hf⟩
 ·rw [e] at hb;exact Hm _ hb
 ·rw [e] at hb;unfold frs at hb;rw [List.filterMap_cons,hf] at hb;exact hb
theorem Inv.sg (I:Inv X pins σ H s):∀ b∈frs X.stack,H b=none:=fun b hb=>by
 rcases Hz.mp (I.qe b hb) with e | hb
 ·rw [e];exact I.free
 ·obtain ⟨_,o,ho,_⟩:=I.ok.oP.mem hb;exact I.base.free b o ho (I.ok.frf b hb) fun z=>I.ok.yn b z hb
theorem Inv.step {g':Array GenState} {t':Nat} {d':Drawn} {ch:List Addr} (I:Inv X pins σ H s)
  (hch:∀ b∈ch,(b∈X.ex\/X.s₀.heap.objs.size<=b)/\b≠X.env.locals/\(∀ x c,X.env.cells.lookup x=some c->c≠b)/\∀ p∈X.pn++pins,p.1≠b)
  (keep:∀ b o,b≠X.env.locals->b ∉ X.fs->b ∉ ch->s.heap.get? b=some o->H b=none->h'.get? b=some o)
  (slot:∀ b o,b≠X.env.locals->b∈X.fs->b ∉ ch->s.heap.get? b=some o->H b=none->∃ sl,h'.get? b=some { o with slots:=sl }) (free:∀ b o,b ∉ ch->s.heap.get? b=some o->H b=none->H' b=none)
  (there:∀ b o,b ∉ ch->s.heap.get? b=some o->∃ o',h'.get? b=some o')
  (sV:∀ b xs,H b=some (.tup xs)->H' b=some (.tup xs)) (pG:∀ b o u,H b=some (.frz o u)->H' b=some (.frz o u)) (tU:∀ b ps,H b=some (.tbl ps)->∃ more,H' b=some (.tbl (ps++more)))
  (ns:∀ m,s.heap.Ns X.env.locals m->h'.Ns X.env.locals m) (hok:HOk X.prog X.w H' h') (hg:AllBare g') :
  Inv X pins σ H' { s with heap:=h',gens:=g',drawn:=d',toks:=t' }:=by
 have neL:∀ b o,X.s₀.heap.get? b=some o->b≠X.env.locals:=fun b o e=>HI (Hy (Hw e) I.ok.above);have neC:∀ b o,X.s₀.heap.get? b=some o->b ∉ X.ex->b ∉ ch:=fun b o e hx hb=>by
  rcases (hch b hb).1 with z | z
  ·exact hx z
  ·exact absurd (Hy (Hw e) z) (HW _)
 have cellK:∀ x c,X.env.cells.lookup x=some c->∀ v,s.heap.IsCell c v->h'.IsCell c v:=fun x c e v ⟨o,ho,hd⟩=>by
  have nch:c ∉ ch:=fun z=>(hch c z).2.2.1 x c e rfl;by_cases hc:c∈X.fs
  ·obtain ⟨sl,q⟩:=slot c o (I.cne x c e) hc nch ho (I.fB x c e);exact ⟨_,q,hd⟩
  ·exact ⟨o,keep c o (I.cne x c e) hc nch ho (I.fB x c e),hd⟩
 refine ⟨I.ok,I.os,hg,⟨fun b o e n hb hx=>?_,fun b o e n hb hx=>?_,fun b o e n hx=>?_,fun b o e hx=>?_,fun b xs e=>sV b xs (I.base.sV b xs e),fun b o xs e=>pG b o xs (I.base.pG b o xs e),fun b ps e=>?_⟩,?_,fun x c e=>?_,?_,fun x c e=>?_,fun p hp=>?_,hok,I.len⟩
 ·exact keep b o (neL b o e) hb (neC b o e hx) (I.base.keep b o e n hb hx) (I.base.free b o e n hx)
 ·obtain ⟨sl,e1⟩:=I.base.slot b o e n hb hx;obtain ⟨sl',e2⟩:=slot b _ (neL b o e) hb (neC b o e hx) e1 (I.base.free b o e n hx);exact ⟨sl',e2⟩
 ·obtain ⟨o',e1⟩:=I.base.there b o e hx;exact free b o' (neC b o e hx) e1 (I.base.free b o e n hx)
 ·obtain ⟨o',e1⟩:=I.base.there b o e hx;exact there b o' (neC b o e hx) e1
 ·obtain ⟨m1,e1⟩:=I.base.tU b ps e;obtain ⟨m2,e2⟩:=tU b _ e1;exact ⟨m1++m2,by rw [e2,Array.append_assoc]⟩
 ·obtain ⟨m,hn,hl⟩:=I.loc;refine ⟨m,ns m hn,fun i x v e1 e2 e3=>?_⟩;obtain ⟨u,r,l⟩:=hl i x v e1 e2 e3;refine ⟨u,r,?_⟩;rcases l with l | ⟨k,c,e,z⟩
  ·exact .inl l
  ·exact .inr ⟨k,c,e,cellK x c e _ z⟩
 ·obtain ⟨v,z⟩:=I.cell x c e;exact ⟨v,cellK x c e v z⟩
 ·obtain ⟨m,⟨o,_,_,ho,_⟩,_⟩:=I.loc;exact free _ o (fun z=>(hch _ z).2.1 rfl) ho I.free
 ·obtain ⟨v,o,ho,hd⟩:=I.cell x c e;exact free c o (fun z=>(hch c z).2.2.1 x c e rfl) ho (I.fB x c e)
 ·obtain ⟨e,n,ne,nf,d⟩:=I.pin p hp;have nch:p.1 ∉ ch:=fun z=>(hch p.1 z).2.2.2 p hp rfl;exact ⟨keep p.1 p.2 ne nf nch e n,free p.1 p.2 nch e n,ne,nf,d⟩
theorem Inv.un {t':Nat} (I:Inv X pins σ H s) (u:Un X.fs [] H H' s.heap h') (hok:HOk X.prog X.w H' h'):Inv X pins σ H' { s with heap:=h',toks:=t' }:=by
 obtain ⟨m,⟨o,es,ep,ho,r⟩,_⟩:=id I.loc;obtain ⟨sl,hL⟩:=u.any ho I.free (by simp)
 exact I.step (g':=s.gens) (d':=s.drawn) (ch:=[]) (fun _ z=>nomatch z) (fun b o _ hb _ e n=>u.keep b o e n hb (by simp)) (fun b o _ hb _ e n=>u.slot b o e n hb (by simp)) (fun b o _ e n=>u.free b o e n (by simp)) (fun b o _ e=>u.there b o e (by simp)) u.sV u.pG u.tU (fun m' hm=>by
  obtain ⟨o',es',ep',ho',r'⟩:=hm;rw [ho] at ho';cases ho'
  exact ⟨_,es',ep',hL,r'⟩) hok I.bare
theorem Inv.call {g':Array GenState} {t':Nat} {d':Drawn} {ch:List Addr} (I:Inv X pins σ H s) (u:Un (frs X.stack) ch H H' s.heap h') (hok:HOk X.prog X.w H' h') (hg:AllBare g')
  (hch:∀ b∈ch,(b∈X.ex\/X.s₀.heap.objs.size<=b)/\b≠X.env.locals/\(∀ x c,X.env.cells.lookup x=some c->c≠b)/\∀ p∈X.pn++pins,p.1≠b) :
  Inv X pins σ H' { s with heap:=h',gens:=g',drawn:=d',toks:=t' }:=by
 obtain ⟨m,⟨o,es,ep,ho,r⟩,_⟩:=id I.loc;obtain ⟨sl,hL⟩:=u.any ho I.free fun z=>(hch _ z).2.1 rfl
 exact I.step (ch:=ch) hch (fun b o hL hb hc e n=>u.keep b o e n (fun z=>(Hz.mp (I.qe b z)).elim hL hb) hc) (fun b o _ _ hc e n=>u.any e n hc) (fun b o hc e n=>u.free b o e n hc) (fun b o hc e=>u.there b o e hc) u.sV u.pG u.tU (fun m' hm=>by
  obtain ⟨o',es',ep',ho',r'⟩:=hm;rw [ho] at ho';cases ho'
  exact ⟨_,es',ep',hL,r'⟩) hok hg
theorem Inv.turned {t':Nat} {it:Addr} (I:Inv X pins σ H s) (k:∀ b o,b≠it->s.heap.get? b=some o->h'.get? b=some o) (hn:H it=none) (hL:it≠X.env.locals)
  (h1:it∈X.ex\/X.s₀.heap.objs.size<=it) (h2:∀ x c,X.env.cells.lookup x=some c->c≠it) (h3:∀ p∈X.pn++pins,p.1≠it):Inv X pins σ H { s with heap:=h',toks:=t' }:=by
 have nit:∀ b u,H b=some u->b≠it:=fun b u e z=>by rw [z,hn] at e;cases e
 refine I.step (g':=s.gens) (d':=s.drawn) (ch:=[it]) (fun b hb=>?_) (fun b o _ _ hc e _=>k b o (fun z=>hc (by simp [z])) e) (fun b o _ _ hc e _=>⟨o.slots,k b o (fun z=>hc (by simp [z])) e⟩) (fun _ _ _ _ n=>n)
  (fun b o hc e=>⟨o,k b o (fun z=>hc (by simp [z])) e⟩) (fun _ _ e=>e) (fun _ _ _ e=>e) (fun b ps e=>⟨#[],by rw [e];simp⟩) (fun m hm=>?_) (fun b u e=>?_) I.bare
 ·have e:b=it:=by simpa using hb
  subst e;exact ⟨h1,hL,h2,h3⟩
 ·obtain ⟨o,es,ep,ho,r⟩:=hm;exact ⟨o,es,ep,k _ o (Ne.symm hL) ho,r⟩
 ·refine (I.hok b u e).kO (fun c v hc q=>k c v ?_ q) (fun _ q=>q) fun _ _ q=>q;rcases hc with z | z
  ·rw [z];exact nit b u e
  ·exact nit c _ z
theorem Inv.tok (I:Inv X pins σ H s) (t:Nat):Inv X pins σ H { s with toks:=t }:=I.un (h':=s.heap) (t':=t) Un.refl I.hok
theorem Inv.kept {t':Nat} (I:Inv X pins σ H s) (k:∀ b u,s.heap.get? b=some u->h'.get? b=some u):Inv X pins σ H { s with heap:=h',toks:=t' }:=I.un (Un.kept k) (I.hok.kept k)
theorem Inv.laid {a:Addr} {o:HO} {t':Nat} (I:Inv X pins σ H s) (k:∀ b u,s.heap.get? b=some u->h'.get? b=some u) (hp:s.heap.objs.size<=a) (new:aR X.prog X.w (upd H a o) h' a o) :
  Inv X pins σ (upd H a o) { s with heap:=h',toks:=t' }:=I.un (Un.laid k hp (I.hok.fresh hp)) (I.hok.laid k hp new)
theorem Inv.write {x e:Addr} {o:HO} {t':Nat} (I:Inv X pins σ H s) (mu:Mut (H x)) (he:e=x\/H e=some (.own x)) (k:∀ b u,b≠e->s.heap.get? b=some u->h'.get? b=some u) (heo:∃ u,h'.get? e=some u)
  (new:aR X.prog X.w (upd H x o) h' x o):Inv X pins σ (upd H x o) { s with heap:=h',toks:=t' }:=I.un (Un.write mu he k heo) (I.hok.write mu he k heo new)
theorem Inv.bZ {pins':List (Addr×Obj)} (I:Inv X pins σ H s) (h:∀ p∈pins',s.heap.get? p.1=some p.2/\H p.1=none/\p.1≠X.env.locals/\p.1 ∉ X.fs/\∀ v,p.2.data≠.cell v):Inv X pins' σ H s :=
 ⟨I.ok,I.os,I.bare,I.base,I.loc,I.cell,I.free,I.fB,fun p hp=>(HK.mp hp).elim (fun z=>I.pin p (HY _ z)) (h p),I.hok,I.len⟩
theorem mQ {N:List Str} (hN:N.Nodup) {i j:Nat} {x:Str} (a:N[i]?=some x) (b:N[j]?=some x):i=j:=by
 obtain ⟨h1,e1⟩:=Hd.mp a;obtain ⟨h2,e2⟩:=Hd.mp b;exact (List.getElem_inj hN).mp (e1.trans e2.symm)
theorem pW {M:Model} {A:Around} {E:Value->Shared->Prop} {i:Nat} {x:Str} {v:V} {u:Value} {Q:Unit->Shared->Prop} (I:Inv X pins σ H s) (hN:X.N.Nodup) (hi:X.N[i]?=some x) (hx:Loc X.env.scope x) (r:RelV v u)
  (h:∀ s',Inv X pins (σ.set i (some v)) H s'->(∃ a,Heap.SameBut a s.heap s'.heap/\(a=X.env.locals\/X.env.cells.lookup x=some a))->Q () s') (hf:X.fn x=true\/X.env.scope.names.lookup x=some .local:=by first | exact .inl rfl | exact .inr rfl | assumption):wpAny M A (storeName X.env x u) Q E s:=by
 obtain ⟨m,hn,hl⟩:=id I.loc;have hcls:(X.env.scope.kind==.class||(X.env.scope.kind==.module&&X.env.locals != X.env.globals))=false:=by rw [I.ok.kind];rfl
 have hiσ:i < σ.length:=by rw [I.len];exact (Hd.mp hi).1
 have cne:=I.cne;have tracked:∀ {a:Addr} {h':Heap},(∃ o,s.heap.get? a=some o/\H a=none)->Heap.SameBut a s.heap h'->HOk X.prog X.w H h':=fun {a h'} ha hs b ob e=>by
  obtain ⟨_,_,hfree⟩:=ha;refine (I.hok b ob e).kO (fun c w' hc q=>(hs.2 c ?_).trans q) (fun _ q=>q) fun _ _ q=>q;rintro rfl;rcases hc with rfl | hc
  ·rw [hfree] at e;cases e
  ·rw [hfree] at hc;cases hc
 rcases hx with hk | hk
 ·refine wpAny_storeName_local hk hn (fun h' hn' hs=>?_) hcls;obtain ⟨oL,_,_,hoL,_⟩:=id hn;refine h _ ⟨I.ok,I.os,I.bare,⟨fun b o e n hb hx=>?_,fun b o e n hb hx=>?_,I.base.free,fun b o e hx=>?_,I.base.sV,I.base.pG,I.base.tU⟩,⟨_,hn',fun j y v' e1 e2 e3=>?_⟩,fun y c e=>?_,I.free,I.fB,fun p hp=>?_,tracked ⟨oL,hoL,I.free⟩ hs,by simpa using I.len⟩ ⟨_,hs,.inl rfl⟩
  ·exact (hs.2 b (HI (Hy (Hw e) I.ok.above))).trans (I.base.keep b o e n hb hx)
  ·obtain ⟨sl,e1⟩:=I.base.slot b o e n hb hx;exact ⟨sl,(hs.2 b (HI (Hy (Hw e) I.ok.above))).trans e1⟩
  ·obtain ⟨o',e1⟩:=I.base.there b o e hx;exact ⟨o',(hs.2 b (HI (Hy (Hw e) I.ok.above))).trans e1⟩
  ·by_cases hj:j=i
   ·subst hj;rw [hi] at e1;cases e1;rw [Ho hiσ] at e2;cases e2;exact ⟨u,r,.inl ⟨hk,by simp⟩⟩
   ·rw [Hf (Ne.symm hj)] at e2;obtain ⟨u',r',q⟩:=hl j y v' e1 e2 e3;refine ⟨u',r',?_⟩;rcases q with ⟨k,e⟩ | ⟨k,c,e,z⟩
    ·refine .inl ⟨k,?_⟩;have:y≠x:=fun e=>hj (mQ hN e1 (e▸hi));simp [this,e]
    ·exact .inr ⟨k,c,e,z.sameBut hs (cne y c e)⟩
  ·obtain ⟨w',z⟩:=I.cell y c e;exact ⟨w',z.sameBut hs (cne y c e)⟩
  ·obtain ⟨e,n,ne,nf,d⟩:=I.pin p hp;exact ⟨(hs.2 p.1 ne).trans e,n,ne,nf,d⟩
 ·have hfn:X.fn x=true:=by
   rcases hf with z | z
   ·exact z
   ·rw [z] at hk;cases hk
  obtain ⟨c,hc⟩:=I.ok.has x (.inl hk);obtain ⟨w',z⟩:=I.cell x c hc;refine wpAny_storeName_cell I.ok.kind hk hc z (fun h' hc' hs=>?_);obtain ⟨oc,hoc,hocd⟩:=id z;refine h { s with heap:=h' } ⟨I.ok,I.os,I.bare,⟨fun b o e n hb hx=>?_,fun b o e n hb hx=>?_,I.base.free,fun b o e hx=>?_,I.base.sV,I.base.pG,I.base.tU⟩,⟨m,hn.sameBut hs (Ne.symm (cne x c hc)),fun j y v' e1 e2 e3=>?_⟩,fun y c' e=>?_,I.free,I.fB,fun p hp=>?_,tracked ⟨oc,hoc,I.fB x c hc⟩ hs,by simpa using I.len⟩ ⟨c,hs,.inr hc⟩
  ·exact (hs.2 b (HI (Hy (Hw e) (I.ok.cab x c hfn hc)))).trans (I.base.keep b o e n hb hx)
  ·obtain ⟨sl,e1⟩:=I.base.slot b o e n hb hx;exact ⟨sl,(hs.2 b (HI (Hy (Hw e) (I.ok.cab x c hfn hc)))).trans e1⟩
  ·obtain ⟨o',e1⟩:=I.base.there b o e hx;exact ⟨o',(hs.2 b (HI (Hy (Hw e) (I.ok.cab x c hfn hc)))).trans e1⟩
  ·by_cases hj:j=i
   ·subst hj;rw [hi] at e1;cases e1;rw [Ho hiσ] at e2;cases e2;exact ⟨u,r,.inr ⟨.inl hk,c,hc,hc'⟩⟩
   ·rw [Hf (Ne.symm hj)] at e2;obtain ⟨u',r',q⟩:=hl j y v' e1 e2 e3;refine ⟨u',r',?_⟩;rcases q with q | ⟨k,c',e,z'⟩
    ·exact .inl q
    ·refine .inr ⟨k,c',e,z'.sameBut hs ?_⟩;rintro rfl;exact hj (mQ hN e1 (I.ok.inj _ _ _ e hc▸hi))
  ·by_cases hcc:c'=c
   ·subst hcc;exact ⟨_,hc'⟩
   ·obtain ⟨w2,z2⟩:=I.cell y c' e;exact ⟨w2,z2.sameBut hs hcc⟩
  ·obtain ⟨e,n,ne,nf,d⟩:=I.pin p hp;refine ⟨(hs.2 p.1 ?_).trans e,n,ne,nf,d⟩;intro q;rw [q,hoc] at e;have q':oc=p.2:=HU e;exact d w' (by rw [<- q'];exact hocd)
theorem oh {M:Model} {A:Around} {E:Value->Shared->Prop} {i:Nat} {x:Str} {v:V} {u:Value} {Q:Unit->Shared->Prop} (I:Inv X pins σ H s) (hN:X.N.Nodup) (hi:X.N[i]?=some x) (hx:Loc X.env.scope x) (r:RelV v u)
  (h:∀ s',Inv X pins (σ.set i (some v)) H s'->Q () s') (hf:X.fn x=true\/X.env.scope.names.lookup x=some .local:=by first | exact .inl rfl | exact .inr rfl | assumption):wpAny M A (storeName X.env x u) Q E s :=
 pW I hN hi hx r (fun s' I' _=>h s' I') hf
end
abbrev XK:=Value->Option Addr->Hp->Prop
abbrev St:=List (Option V)
abbrev VK:=V->Hp->Prop
abbrev TE:=St->Hp->VK->Prop
abbrev TT:=St->Hp->(Bool->Hp->Prop)->Prop
abbrev TA:=St->Hp->(List V->Hp->Prop)->Prop
structure Ends where
 nx:St->Hp->Prop
 rt:VK
 bk:St->Hp->Prop:=fun _ _=>False
 ct:St->Hp->Prop:=fun _ _=>False
abbrev TS:=Ends->St->Hp->Prop
def EP (X:Cx) (pins:List (Addr×Obj)) (σ:St) (Q:VK) (u:Value) (s':Shared):Prop:=∃ v H',Inv X pins σ H' s'/\RelV v u/\Q v H'
def TP (X:Cx) (pins:List (Addr×Obj)) (σ:St) (Q:Bool->Hp->Prop) (b:Bool) (s':Shared):Prop:=∃ H',Inv X pins σ H' s'/\Q b H'
def AP (X:Cx) (pins:List (Addr×Obj)) (σ:St) (Q:List V->Hp->Prop) (us:List Value) (s':Shared):Prop:=∃ vs H',Inv X pins σ H' s'/\Vals vs us/\Q vs H'
def SP (X:Cx) (pins:List (Addr×Obj)) (D:Ends) (f:Flow) (s':Shared):Prop :=
 match f with
 | .next=>∃ σ' H',Inv X pins σ' H' s'/\D.nx σ' H'
 | .brk=>∃ σ' H',Inv X pins σ' H' s'/\D.bk σ' H'
 | .cont=>∃ σ' H',Inv X pins σ' H' s'/\D.ct σ' H'
 | .ret u=>∃ v σ' H',Inv X pins σ' H' s'/\RelV v u/\D.rt v H'
def PE (X:Cx) (e:Expr) (t:TE):Prop :=
 ∀ (pins:List (Addr×Obj)) (s:Shared) (σ:St) (H:Hp) (Q:VK),Inv X pins σ H s->t σ H Q->wpAny (model X.prog X.w) X.A (eval e X.env) (EP X pins σ Q) X.xe s
def PT (X:Cx) (e:Expr) (t:TT):Prop :=
 ∀ (pins:List (Addr×Obj)) (s:Shared) (σ:St) (H:Hp) (Q:Bool->Hp->Prop),Inv X pins σ H s->t σ H Q->wpAny (model X.prog X.w) X.A (isTrue e X.env (eval e X.env)) (TP X pins σ Q) X.xe s
def PW (X:Cx) (e:Expr) (t:TT):Prop :=
 ∀ (whole:Sem Value) (pins:List (Addr×Obj)) (s:Shared) (σ:St) (H:Hp) (Q:Bool->Hp->Prop),Inv X pins σ H s->t σ H Q->wpAny (model X.prog X.w) X.A (isTrue e X.env whole) (TP X pins σ Q) X.xe s
theorem PW.pt {X:Cx} {e:Expr} {t:TT} (h:PW X e t):PT X e t:=h _
def PA (X:Cx) (es:List Expr) (t:TA):Prop :=
 ∀ (pos:Pos) (pins:List (Addr×Obj)) (s:Shared) (σ:St) (H:Hp) (Q:List V->Hp->Prop),Inv X pins σ H s->t σ H Q->wpAny (model X.prog X.w) X.A (spliced (backTo pos (starEach es X.env))) (AP X pins σ Q) X.xe s
def PS (X:Cx) (st:Stmt) (t:TS):Prop :=
 ∀ (pins:List (Addr×Obj)) (s:Shared) (σ:St) (H:Hp) (D:Ends),Inv X pins σ H s->t D σ H->wpAny (model X.prog X.w) X.A (exec st X.env) (SP X pins D) X.xe s
def PSs (X:Cx) (st:List Stmt) (t:TS):Prop :=
 ∀ (pins:List (Addr×Obj)) (s:Shared) (σ:St) (H:Hp) (D:Ends),Inv X pins σ H s->t D σ H->wpAny (model X.prog X.w) X.A (execs st X.env) (SP X pins D) X.xe s
theorem thn {α:Type} {t:Sem α} {Q Q':α->Shared->Prop} {M:Model} {A:Around} {E:Value->Shared->Prop} {s:Shared} (h:wpAny M A t Q E s) (hQ:∀ a s,Q a s->Q' a s):wpAny M A t Q' E s:=HP h hQ fun _ _ x=>x
end L2
namespace L2
open PySem PySem.Spec PyProof.Rows
section
variable {X:Cx}
theorem bin {a b:Expr} {ta tb:TE} (ha:PE X a ta) (hb:PE X b tb) {pins:List (Addr×Obj)} {s:Shared} {σ:St} {H:Hp} {R:V->V->Hp->Prop} (I:Inv X pins σ H s) (h:ta σ H fun x H1=>tb σ H1 fun y H2=>R x y H2)
  {α:Type} {Q:α->Shared->Prop} {f:Value->Value->Sem α}
  (hf:∀ v u s2 x y H2,Inv X pins σ H2 s2->RelV x v->RelV y u->R x y H2->wpAny (model X.prog X.w) X.A (f v u) Q X.xe s2) :
  wpAny (model X.prog X.w) X.A (eval a X.env) (fun v s₁=>wpAny (model X.prog X.w) X.A (eval b X.env) (fun u s₂=>wpAny (model X.prog X.w) X.A (f v u) Q X.xe s₂) X.xe s₁) X.xe s:=by
 refine thn (ha pins s σ H _ I h) fun v s1 ⟨x,H1,I1,r1,q1⟩=>?_;refine thn (hb pins s1 σ H1 _ I1 q1) fun u s2 ⟨y,H2,I2,r2,q2⟩=>?_;exact hf v u s2 x y H2 I2 r1 r2 q2
def ug (i:Nat):TE:=fun σ H Q=>∃ v,σ[i]?=some (some v)/\Q v H
def tC (v:V):TE:=fun _ H Q=>Q v H
theorem Bk {i:Nat} {x:Str} {pos:Pos} (hN:X.N[i]?=some x) (hv:Vis X.env.scope x) (hd:(x==("__debug__" : Str))=false:=by decide) (hcd:(x==("__classdict__" : Str))=false:=by decide):PE X (.Name x pos) (ug i):=by
 intro pins s σ H Q I h;obtain ⟨v,e,h⟩:=h;obtain ⟨m,hn,hl⟩:=I.loc;obtain ⟨u,r,l⟩:=hl i x v hN e hv;have fin:EP X pins σ Q u s:=⟨v,H,I,r,h⟩;rcases l with ⟨hk,hm⟩ | ⟨hk,c,hc,hcell⟩
 ·exact wpAny_Name (wpAny_loadName_local I.ok.kind hk hn hm fin) hd
 ·rcases hk with hk | hk
  ·exact wpAny_Name (wpAny_loadName_cell I.ok.kind hk hc hcell fin) hd
  ·exact wpAny_Name (wpAny_loadName_free I.ok.kind hk hc hcell fin hcd) hd
theorem zd {i j pos}:PE X (.Constant (.int i) j pos) (tC (.int i)):=fun _ _ _ H _ I h=>wpAny_Constant_int ⟨.int i,H,I.tok _,⟨_,rfl⟩,h⟩
theorem Dj {b j pos}:PE X (.Constant (.bool b) j pos) (tC (.bl b)):=fun _ _ _ H _ I h=>Constant_bool ⟨.bl b,H,I,rfl,h⟩
theorem Au {x j pos}:PE X (.Constant (.str x) j pos) (tC (.str x)):=fun _ _ _ H _ I h=>Calls.Constant_str ⟨.str x,H,I.tok _,⟨_,rfl⟩,h⟩
def Gl (X:Cx) (x:Str):Prop:=X.env.kindOf x=some .globalImplicit
theorem qN {E:Value->Shared->Prop} {pins:List (Addr×Obj)} {s:Shared} {σ:St} {H:Hp} {x:Str} {u:Value} {pos:Pos} {Q:Value->Shared->Prop} (I:Inv X pins σ H s) (hg:Gl X x) (hm:X.mg x=some u) (h:Q u s)
  (hd:(x==("__debug__" : Str))=false:=by decide):wpAny (model X.prog X.w) X.A (eval (.Name x pos) X.env) Q E s :=
 Calls.Name_function_global I.ok.kind hg (Calls.loadGlobal_global (by rw [I.ok.glob];exact I.mod.glob.keeps I.bk) hm h) hd
theorem i7 {E:Value->Shared->Prop} {pins:List (Addr×Obj)} {s:Shared} {σ:St} {H:Hp} {x:Str} {u:Value} {pos:Pos} {Q:Value->Shared->Prop} (I:Inv X pins σ H s) (hg:Gl X x) (hm:X.mg x=none) (hv:bootBuiltins x=some u) (h:Q u s)
  (hn:x ≠ "__name__" := by decide) (hd:(x==("__debug__" : Str))=false:=by decide):wpAny (model X.prog X.w) X.A (eval (.Name x pos) X.env) Q E s:=by
 obtain ⟨mb,h1,h2⟩:=I.mod.blt;exact Calls.Name_function_global I.ok.kind hg (Calls.loadGlobal_builtin (by rw [I.ok.glob];exact I.mod.glob.keeps I.bk) hm (by rw [I.ok.blt];exact h1.keeps I.bk) ((h2 x hn).trans hv) h) hd
theorem qv {x:Str} {v:V} {u:Value} {pos:Pos} (hg:Gl X x) (hm:X.mg x=some u) (r:RelV v u) (hd:(x==("__debug__" : Str))=false:=by decide):PE X (.Name x pos) (tC v) :=
 fun _ _ _ H _ I h=>qN I hg hm ⟨v,H,I,r,h⟩ hd
theorem x4 {x:Str} {v:V} {u:Value} {pos:Pos} (hg:Gl X x) (hm:X.mg x=none) (hv:bootBuiltins x=some u) (r:RelV v u) (hn:x ≠ "__name__" := by decide) (hd:(x==("__debug__" : Str))=false:=by decide):PE X (.Name x pos) (tC v) :=
 fun _ _ _ H _ I h=>i7 I hg hm hv ⟨v,H,I,r,h⟩ hn hd
variable {a b:Expr} {ta tb:TE} {pos:Pos}
def PC (X:Cx) (op:CmpOp) (a b:Expr) (t:TE):Prop :=
 ∀ (pins:List (Addr×Obj)) (s:Shared) (σ:St) (H:Hp) (Q:VK),Inv X pins σ H s->t σ H Q ->
  wpAny (model X.prog X.w) X.A (eval a X.env) (fun v s₁=>wpAny (model X.prog X.w) X.A (eval b X.env) (fun u s₂=>wpAny (model X.prog X.w) X.A (compareOp op v u) (EP X pins σ Q) X.xe s₂) X.xe s₁) X.xe s
theorem uJ (b:Expr) {op:CmpOp} (h:op≠.In) (h2:op≠.NotIn):behindInMarks op b=false:=by
 have e1:(op==CmpOp.In)=false:=by cases op <;> first | rfl | exact absurd rfl h
 have e2:(op==CmpOp.NotIn)=false:=by cases op <;> first | rfl | exact absurd rfl h2
 cases b <;> simp [behindInMarks,e1,e2]
def tB (t:TE):TT:=fun σ H Q=>t σ H fun x H1=>∃ c,x=.bl c/\Q c H1
theorem yE {op:CmpOp} {t:TE} (h:PC X op a b t) (h1:behindInMarks op b=false:=by first | exact uJ _ (by decide) (by decide) | rfl):PT X (.Compare a [op] [b] pos) (tB t):=by
 intro pins s σ H Q I hw;refine wpAny_isTrue_Compare1 (thn (h pins s σ H _ I hw) fun v s1 h1=>thn h1 fun u s2 h2=>thn h2 fun c s3 ⟨x,H1,I1,r1,q1⟩=>?_) h1;obtain ⟨d,rfl,q⟩:=q1;cases r1;exact HV ⟨H1,I1,q⟩
theorem Bl {e:Expr} {t:TE} (h:PE X e t) (he:∀ whole,isTrue e X.env whole=(do let v<-whole;standAt e.pos;holding [v] (truthy v)):=by intro _;rfl):PT X e (tB t):=by
 intro pins s σ H Q I hw;refine isTrue_plain (thn (h pins s σ H _ I hw) fun v s1 ⟨x,H1,I1,r1,q1⟩=>?_) (he _);obtain ⟨d,rfl,q⟩:=q1;cases r1;exact HV ⟨H1,I1,q⟩
variable {tA tB':TT} {rest:List Expr}
def EC (t u:TT):TT:=fun σ H Q=>t σ H fun c H1=>if c=true then u σ H1 Q else Q false H1
def tOr (t u:TT):TT:=fun σ H Q=>t σ H fun c H1=>if c=true then Q true H1 else u σ H1 Q
def DK (t:TT):TT:=fun σ H Q=>t σ H fun c H1=>Q (!c) H1
theorem pw_and1 (ha:PT X a tA):PW X (.BoolOp .And [a] pos) tA:=by
 intro wh pins s σ H Q I h;refine isTrue_and (thn (ha pins s σ H Q I h) fun c s1 e=>?_);cases c with
 | true=>exact isTrue_and_nil e
 | false=>exact e
theorem pw_or1 (ha:PT X a tA):PW X (.BoolOp .Or [a] pos) tA:=by
 intro wh pins s σ H Q I h;refine isTrue_or (thn (ha pins s σ H Q I h) fun c s1 e=>?_);cases c with
 | false=>exact isTrue_or_nil e
 | true=>exact e
theorem pw_and (ha:PT X a tA) (hb:PW X (.BoolOp .And (b :: rest) pos) tB'):PW X (.BoolOp .And (a :: b :: rest) pos) (EC tA tB'):=by
 intro wh pins s σ H Q I h;refine isTrue_and (thn (ha pins s σ H _ I h) fun c s1 ⟨H1,I1,q1⟩=>?_);cases c with
 | true=>exact hb wh pins s1 σ H1 Q I1 q1
 | false=>exact ⟨H1,I1,q1⟩
theorem pw_or (ha:PT X a tA) (hb:PW X (.BoolOp .Or (b :: rest) pos) tB'):PW X (.BoolOp .Or (a :: b :: rest) pos) (tOr tA tB'):=by
 intro wh pins s σ H Q I h;refine isTrue_or (thn (ha pins s σ H _ I h) fun c s1 ⟨H1,I1,q1⟩=>?_);cases c with
 | true=>exact ⟨H1,I1,q1⟩
 | false=>exact hb wh pins s1 σ H1 Q I1 q1
theorem BL (ha:PT X a tA):PT X (.UnaryOp .Not a pos) (DK tA):=by
 intro pins s σ H Q I h;exact isTrue_not (ha pins s σ H (fun c H1=>Q (!c) H1) I h)
def wZ (ta tb:TE):TE:=fun σ H Q=>ta σ H fun x H1=>∃ c,x=.bl c/\if c=true then tb σ H1 Q else Q (.bl false) H1
def ES (ta tb:TE):TE:=fun σ H Q=>ta σ H fun x H1=>∃ c,x=.bl c/\if c=true then Q (.bl true) H1 else tb σ H1 Q
def vU (ta:TE):TE:=fun σ H Q=>ta σ H fun x H1=>∃ c,x=.bl c/\Q (.bl (!c)) H1
theorem Br {op} {t:TE} (h:PE X a t):PE X (.BoolOp op [a] pos) t:=fun pins s σ H Q I hw=>BoolOp_one (h pins s σ H Q I hw)
theorem zg (ha:PE X a ta) (hb:PE X (.BoolOp .And (b :: rest) pos) tb):PE X (.BoolOp .And (a :: b :: rest) pos) (wZ ta tb):=by
 intro pins s σ H Q I h;refine BoolOp_and (thn (ha pins s σ H _ I h) fun v s1 ⟨x,H1,I1,r1,q1⟩=>?_);obtain ⟨c,rfl,q1⟩:=q1;cases r1;refine HV ?_;cases c with
 | true=>exact hb pins s1 σ H1 Q I1 q1
 | false=>exact ⟨.bl false,H1,I1,rfl,q1⟩
theorem C9 (ha:PE X a ta) (hb:PE X (.BoolOp .Or (b :: rest) pos) tb):PE X (.BoolOp .Or (a :: b :: rest) pos) (ES ta tb):=by
 intro pins s σ H Q I h;refine BoolOp_or (thn (ha pins s σ H _ I h) fun v s1 ⟨x,H1,I1,r1,q1⟩=>?_);obtain ⟨c,rfl,q1⟩:=q1;cases r1;refine HV ?_;cases c with
 | false=>exact hb pins s1 σ H1 Q I1 q1
 | true=>exact ⟨.bl true,H1,I1,rfl,q1⟩
theorem Bc (ha:PE X a ta):PE X (.UnaryOp .Not a pos) (vU ta):=by
 intro pins s σ H Q I h;refine UnaryOp_ (thn (ha pins s σ H _ I h) fun v s1 ⟨x,H1,I1,r1,q1⟩=>?_);obtain ⟨c,rfl,q1⟩:=q1;cases r1;exact not_of (HV ⟨.bl (!c),H1,I1,rfl,q1⟩)
def tIf (t:TT) (ta tb:TE):TE:=fun σ H Q=>t σ H fun c H1=>if c=true then ta σ H1 Q else tb σ H1 Q
theorem tP {c:Expr} (hc:PT X c tA) (ha:PE X a ta) (hb:PE X b tb):PE X (.IfExp c a b pos) (tIf tA ta tb):=by
 intro pins s σ H Q I h;refine wpAny_IfExp (thn (hc pins s σ H _ I h) fun d s1 ⟨H1,I1,q1⟩=>?_);cases d with
 | true=>exact ha pins s1 σ H1 Q I1 q1
 | false=>exact hb pins s1 σ H1 Q I1 q1
end
end L2
namespace L2
open PySem PySem.Spec PyProof.Rows
def SqL (K:Fg) (H:Hp) (a:Addr) (xs:List V):Prop :=
 Rd H a (.lst xs) \/
  ∃ (o:Obj) (its:Array Value) (n:Nat),K.lookup a=some o/\o.cls=.type "list" /\ o.dict=none/\o.data=.seq its n/\its.size<=sizeLine/\Vals xs its.toList
def SqT (K:Fg) (H:Hp) (a:Addr) (xs:List V):Prop :=
 Rd H a (.tup xs) \/
  ∃ (o:Obj) (its:Array Value) (n:Nat),K.lookup a=some o/\o.cls=.type "tuple" /\ o.data=.seq its n/\its.size<=sizeLine/\Vals xs its.toList
noncomputable def GS:Value->Option V
 | .none=>some .non
 | .bool b=>some (.bl b)
 | .int i _=>some (.int i)
 | .str x _=>some (.str x)
 | .bytes b _=>some (.byt b)
 | .float b _=>some (.flt b)
 | .ref a=>some (.ref a)
 | .type n=>some (.ty n)
 | _=>none
theorem RelV.abs {x:V} {u:Value} (r:RelV x u):GS u=some x:=by
 cases x with
 | non=>cases r;rfl
 | bl _=>cases r;rfl
 | int _=>obtain ⟨t,rfl⟩:=r;rfl
 | str _=>obtain ⟨t,rfl⟩:=r;rfl
 | byt _=>obtain ⟨t,rfl⟩:=r;rfl
 | flt _=>obtain ⟨t,rfl⟩:=r;rfl
 | ref _=>cases r;rfl
 | ty _=>cases r;rfl
theorem RelV.inj {x y:V} {u:Value} (r:RelV x u) (q:RelV y u):x=y:=HU (r.abs.symm.trans q.abs)
theorem Vals.inj:∀ {xs ys:List V} {us:List Value},Vals xs us->Vals ys us->xs=ys
 | _,_,_,.nil,.nil=>rfl
 | _,_,_,.cons r t,.cons r' t'=>by rw [r.inj r',Vals.inj t t']
section
variable {X:Cx} {pins:List (Addr×Obj)} {σ:St} {H:Hp} {s:Shared} {a:Addr} {xs ys:List V}
theorem SqT.of {K:Fg} (h:H a=some (.tup xs)):SqT K H a xs:=.inl (.inl h)
theorem Inv.list (I:Inv X pins σ H s) (h:SqL X.K H a xs):∃ its:List Value,Vals xs its/\PlainL s.heap a its.toArray/\xs.length<=sizeLine:=by
 rcases h with h | ⟨o,its,n,hk,hc,hd,hs,hz,r⟩
 ·obtain ⟨z,its,n,r,e⟩:=h.ok I.hok;exact ⟨its,r,⟨_,n,e,rfl,rfl,rfl⟩,z⟩
 ·refine ⟨its.toList,r,⟨o,n,I.kIn a o hk,hc,hd,by simpa using hs⟩,?_⟩;have e:=r.length;simp only [HL] at e;omega
theorem Inv.tuple (I:Inv X pins σ H s) (h:SqT X.K H a xs):∃ its:List Value,Vals xs its/\IsTup s.heap a its.toArray/\xs.length<=sizeLine:=by
 rcases h with h | ⟨o,its,n,hk,hc,hs,hz,r⟩
 ·obtain ⟨z,its,r,p⟩:=h.ok I.hok;exact ⟨its,r,p,z⟩
 ·refine ⟨its.toList,r,⟨o,I.kIn a o hk,hc,n,by simpa using hs⟩,?_⟩;have e:=r.length;simp only [HL] at e;omega
theorem Inv.tT (I:Inv X pins σ H s) (h:SqL X.K H a xs) (h':SqL X.K H a ys):xs=ys:=by
 obtain ⟨its,r,⟨o,n,e,_,_,d⟩,_⟩:=I.list h;obtain ⟨its',r',⟨o',n',e',_,_,d'⟩,_⟩:=I.list h';rw [e] at e';cases e';rw [d] at d';injection d' with d1 _;have:its=its':=by simpa using congrArg Array.toList d1
 subst this;exact r.inj r'
theorem Inv.pN (I:Inv X pins σ H s) (h:SqT X.K H a xs) (h':SqT X.K H a ys):xs=ys:=by
 obtain ⟨its,r,⟨o,e,_,n,d⟩,_⟩:=I.tuple h;obtain ⟨its',r',⟨o',e',_,n',d'⟩,_⟩:=I.tuple h';rw [e] at e';cases e';rw [d] at d';injection d' with d1 _;have:its=its':=by simpa using congrArg Array.toList d1
 subst this;exact r.inj r'
end
abbrev Cx.sP (X:Cx) (E:Value->Shared->Prop):Cx:={ X with xe:=E }
abbrev Cx.nox (X:Cx):Cx:=X.sP fun _ _=>False
theorem Cx.Ok.sP {X:Cx} (ok:X.Ok) (E:Value->Shared->Prop):(X.sP E).Ok :=
 ⟨ok.mod,ok.kind,ok.glob,ok.blt,ok.above,ok.inj,ok.has,ok.cab,ok.hd,ok.frames,ok.stk,ok.exf,ok.bs,ok.bsz,ok.wR,ok.yn,ok.oP,ok.frf⟩
theorem Cx.Ok.fk {X:Cx} {E:Value->Shared->Prop} (ok:(X.sP E).Ok):X.Ok :=
 ⟨ok.mod,ok.kind,ok.glob,ok.blt,ok.above,ok.inj,ok.has,ok.cab,ok.hd,ok.frames,ok.stk,ok.exf,ok.bs,ok.bsz,ok.wR,ok.yn,ok.oP,ok.frf⟩
section
variable {X:Cx} {pins:List (Addr×Obj)} {σ:St} {H:Hp} {s:Shared} {E:Value->Shared->Prop}
theorem Inv.sP (I:Inv X pins σ H s) (E:Value->Shared->Prop):Inv (X.sP E) pins σ H s:=⟨I.ok.sP E,I.os,I.bare,I.base,I.loc,I.cell,I.free,I.fB,I.pin,I.hok,I.len⟩
theorem Inv.fk (I:Inv (X.sP E) pins σ H s):Inv X pins σ H s:=⟨I.ok.fk,I.os,I.bare,I.base,I.loc,I.cell,I.free,I.fB,I.pin,I.hok,I.len⟩
theorem SP.fk {D:Ends} {f:Flow} {s':Shared} (h:SP (X.sP E) pins D f s'):SP X pins D f s':=by
 cases f with
 | next=>obtain ⟨σ',H',I,q⟩:=h;exact ⟨σ',H',I.fk,q⟩
 | brk=>obtain ⟨σ',H',I,q⟩:=h;exact ⟨σ',H',I.fk,q⟩
 | cont=>obtain ⟨σ',H',I,q⟩:=h;exact ⟨σ',H',I.fk,q⟩
 | ret u=>obtain ⟨v,σ',H',I,r,q⟩:=h;exact ⟨v,σ',H',I.fk,r,q⟩
theorem PSs.nox {st:List Stmt} {t:TS} (h:PSs X.nox st t):PSs X st t:=fun pins s σ H D I hw =>
 HP (h pins s σ H D (I.sP _) hw) (fun _ _ q=>q.fk) fun _ _ z=>False.elim z
end
section
variable {X:Cx} {st:Stmt} {rest:List Stmt} {t u:TS} {e:Expr} {te:TE} {pos:Pos}
def xx:TS:=fun D σ H=>D.nx σ H
def Eb (t u:TS):TS:=fun D σ H=>t { D with nx:=u D } σ H
theorem xZ:PSs X [] xx:=fun _ _ σ H _ I h=>wpAny_execs_nil ⟨σ,H,I,h⟩
theorem uv (h1:PS X st t) (h2:PSs X rest u):PSs X (st :: rest) (Eb t u):=by
 intro pins s σ H D I h;refine wpAny_execs_cons (thn (h1 pins s σ H { D with nx:=u D } I h) fun f s1 q=>?_);cases f with
 | next =>
  obtain ⟨σ',H',I',q⟩:=q;exact h2 pins s1 σ' H' D I' q
 | ret v=>exact q
 | brk=>exact q
 | cont=>exact q
theorem wq (h1:PS X st t):PSs X [st] t:=by
 intro pins s σ H D I h;refine wpAny_execs_cons (thn (h1 pins s σ H D I h) fun f s1 q=>?_);cases f with
 | next=>exact wpAny_execs_nil q
 | ret v=>exact q
 | brk=>exact q
 | cont=>exact q
def BH:TS:=fun D σ H=>D.bk σ H
def EI:TS:=fun D σ H=>D.ct σ H
theorem Inv.quiet {pins:List (Addr×Obj)} {σ:St} {H:Hp} {s:Shared} (I:Inv X pins σ H s):interactive X.env=false:=by simp [interactive,I.ok.kind]
def xf (te:TE):TS:=fun D σ H=>te σ H fun _ H1=>D.nx σ H1
theorem xT (he:PE X e te) (hs:swapsWith e none pos.line X.env=pure false:=by rfl):PS X (.Expr e pos) (xf te):=by
 intro pins s σ H D I h;exact wpAny_Expr_any (thn (he pins s σ H _ I h) fun v s1 ⟨x,H1,I1,r1,q1⟩=>⟨σ,H1,I1,q1⟩) I.quiet hs
def CW (te:TE):TS:=fun D σ H=>te σ H D.rt
theorem zo (he:PE X e te):PS X (.Return (some e) pos) (CW te):=by
 intro pins s σ H D I h;exact wpAny_Return_some (thn (he pins s σ H _ I h) fun v s1 ⟨x,H1,I1,r1,q1⟩=>⟨x,σ,H1,I1,r1,q1⟩)
def DR:TS:=fun D _ H=>D.rt .non H
def DT (c:TT) (t u:TS):TS:=fun D σ H=>c σ H fun b H1=>if b=true then t D σ H1 else u D σ H1
theorem Ee {c:Expr} {a b:List Stmt} {tc:TT} (hc:PT X c tc) (ha:PSs X a t) (hb:PSs X b u):PS X (.If c a b pos) (DT tc t u):=by
 intro pins s σ H D I h;refine wpAny_If (thn (hc pins s σ H _ I h) fun d s1 ⟨H1,I1,q1⟩=>?_);cases d with
 | true=>exact ha pins s1 σ H1 D I1 q1
 | false=>exact hb pins s1 σ H1 D I1 q1
def vp:TS:=fun _ _ _=>False
end
abbrev TG:=V->St->Hp->(St->Hp->Prop)->Prop
abbrev TGs:=List V->St->Hp->(St->Hp->Prop)->Prop
def PG (X:Cx) (target:Expr) (t:TG):Prop :=
 ∀ (pins:List (Addr×Obj)) (s:Shared) (σ:St) (H:Hp) (v:V) (u:Value) (Q:St->Hp->Prop),Inv X pins σ H s->RelV v u->t v σ H Q ->
  wpAny (model X.prog X.w) X.A (assign target X.env u) (fun _ s'=>∃ σ' H',Inv X pins σ' H' s'/\Q σ' H') X.xe s
def PGs (X:Cx) (ts:List Expr) (t:TGs):Prop :=
 ∀ (pins:List (Addr×Obj)) (s:Shared) (σ:St) (H:Hp) (vs:List V) (us:List Value) (Q:St->Hp->Prop),Inv X pins σ H s->Vals vs us->t vs σ H Q ->
  wpAny (model X.prog X.w) X.A (assignInOrder ((assignEach ts X.env).map (·.2)) us) (fun _ s'=>∃ σ' H',Inv X pins σ' H' s'/\Q σ' H') X.xe s
abbrev BO:=V->V->V->Hp->(Hp->Prop)->Prop
def DF (X:Cx) (t:BO):Prop :=
 ∀ (pins:List (Addr×Obj)) (s:Shared) (σ:St) (H:Hp) (o i v:V) (ov iv u:Value) (Q:Hp->Prop),Inv X pins σ H s->RelV o ov->RelV i iv->RelV v u->t o i v H Q ->
  wpAny (model X.prog X.w) X.A (setItem ov iv u) (fun _ s'=>∃ H',Inv X pins σ H' s'/\Q H') X.xe s
section
variable {X:Cx} {pos:Pos}
def cX (i:Nat):TG:=fun v σ H Q=>Q (σ.set i (some v)) H
theorem jN {i:Nat} {x:Str} (hN:X.N.Nodup) (hi:X.N[i]?=some x) (hx:Loc X.env.scope x) (hf:X.fn x=true\/X.env.scope.names.lookup x=some .local:=by first | exact .inl rfl | exact .inr rfl | assumption):PG X (.Name x pos) (cX i):=by
 intro pins s σ H v u Q I r h;exact wpAny_assign_Name (oh I hN hi hx r (fun s' I'=>⟨_,H,I',h⟩) hf)
def DB:TGs:=fun vs σ H Q=>vs=[]/\Q σ H
def wz (t:TG) (u:TGs):TGs:=fun vs σ H Q=>∃ v r,vs=v :: r/\t v σ H fun σ' H'=>u r σ' H' Q
theorem wM:PGs X [] DB:=by
 intro pins s σ H vs us Q I r h;obtain ⟨e,h⟩:=h;subst e;cases r;exact assignInOrder_nil ⟨σ,H,I,h⟩
theorem uQ {e:Expr} {es:List Expr} {t:TG} {u:TGs} (h1:PG X e t) (h2:PGs X es u)
  (hs:(assignEach (e :: es) X.env).map (·.2)=assign e X.env :: (assignEach es X.env).map (·.2):=by rfl):PGs X (e :: es) (wz t u):=by
 intro pins s σ H vs us Q I r h;obtain ⟨v,vr,e1,h⟩:=h;subst e1;cases r with
 | cons r rr =>
  rw [hs];refine assignInOrder_cons (thn (h1 pins s σ H _ _ _ I r h) fun _ s1 ⟨σ1,H1,I1,q1⟩=>?_);exact h2 pins s1 σ1 H1 _ _ Q I1 rr q1
def DW (K:Fg) (n:Nat) (t:TGs):TG:=fun v σ H Q=>∃ a xs,v=.ref a/\SqT K H a xs/\xs.length=n/\t xs σ H Q
theorem yX {es:List Expr} {k:Nat} {t:TGs} {n:Nat} (hc:X.calm=true) (h:PGs X es t)
  (hn:(assignEach es X.env).length=n:=by rfl) (hst:(assignEach es X.env).findIdx? (·.1)=none:=by rfl):PG X (.Tuple es k pos) (DW X.K n t):=by
 intro pins s σ H v u Q I r hw;obtain ⟨a,xs,e1,hq,hl,hw⟩:=hw;subst e1;cases r;obtain ⟨its,rv,ht,hz⟩:=I.tuple hq;refine assign_Tuple_tuple (I.ok.hd hc) ht (by simp [hn,<-hl,rv.length]) hst fun h' hx=>?_;have I1:Inv X pins σ H { s with heap:=h' }:=I.kept (t':=s.toks) fun b o e=>hx b o (HI (Hw e)) e;exact h pins _ σ H xs _ Q I1 (by simpa using rv) hw
def Fv (to ti:TE) (t:BO):TG:=fun v σ H Q=>to σ H fun o H1=>ti σ H1 fun i H2=>t o i v H2 fun H3=>Q σ H3
theorem y4 {o i:Expr} {to ti:TE} {t:BO} (ho:PE X o to) (hi:PE X i ti) (hs:DF X t)
  (ha:∀ v,assign (.Subscript o i pos) X.env v=(do
   let ov<-holding [v] (eval o X.env)
   let iv<-holding [v,ov] (eval i X.env)
   standAt pos
   holding [v,ov,iv] (setItem ov iv v)
   release [v,ov,iv] []):=by intro _;rfl):PG X (.Subscript o i pos) (Fv to ti t):=by
 intro pins s σ H v u Q I r h;rw [ha];refine Ha (HR (thn (ho pins s σ H _ I h) fun ov s1 ⟨x,H1,I1,r1,q1⟩=>?_));refine Ha (HR (thn (hi pins s1 σ H1 _ I1 q1) fun iv s2 ⟨y,H2,I2,r2,q2⟩=>?_));refine Ha (wpAny_standAt (Ha (HR (thn (hs pins s2 σ H2 x y v ov iv u _ I2 r1 r2 r q2) fun _ s3 ⟨H3,I3,q3⟩=>?_))));exact wpAny_release ⟨σ,H3,I3,q3⟩
def rK (te:TE) (g:TG):TS:=fun D σ H=>te σ H fun x H1=>g x σ H1 D.nx
theorem zP {tg e:Expr} {te:TE} {g:TG} (he:PE X e te) (hg:PG X tg g) (hs:swapsWithSole [tg] e pos.line X.env=pure false:=by rfl) (hw:swappedStores [tg] e X.env=pure none:=by rfl)
  (h1:(assignEach [tg] X.env).map (·.2)=[assign tg X.env]:=by rfl):PS X (.Assign [tg] e pos) (rK te g):=by
 intro pins s σ H D I h;refine wpAny_Assign_stores (thn (he pins s σ H _ I h) fun v s1 ⟨x,H1,I1,r1,q1⟩=>?_) hs hw;rw [h1];exact thn (hg pins s1 σ H1 x v _ I1 r1 q1) fun _ s2 q=>q
theorem AK {i:Nat} {x:Str} {e:Expr} {te:TE} {pos':Pos} (hN:X.N.Nodup) (hi:X.N[i]?=some x) (hx:Loc X.env.scope x) (he:PE X e te) (hs:swapsWith e (some (.Name x pos')) pos.line X.env=pure false:=by rfl) (hf:X.fn x=true\/X.env.scope.names.lookup x=some .local:=by first | exact .inl rfl | exact .inr rfl | assumption) :
  PS X (.Assign [.Name x pos'] e pos) (rK te (cX i)):=by
 intro pins s σ H D I h;refine wpAny_Assign_Name (thn (he pins s σ H _ I h) fun v s1 ⟨y,H1,I1,r1,q1⟩=>?_) hs;exact oh I1 hN hi hx r1 (fun s2 I2=>⟨_,H1,I2,q1⟩) hf
end
section
variable {X:Cx} {pos:Pos}
def qc (c:TT) (tb:TS):TS:=fun D σ H=>∃ W:Nat->St->Hp->Prop,(∃ m,W m σ H)/\∀ m σ H,W m σ H ->
 c σ H fun b H1=>if b=true then ∃ N:St->Hp->Prop,(∀ σ' H',N σ' H'->∃ m',m' < m/\W m' σ' H')/\tb { D with nx:=N,ct:=N,bk:=D.nx } σ H1 else D.nx σ H1
theorem uI {c:Expr} {body:List Stmt} {tc:TT} {tb:TS} (hp:PassesOwn (model X.prog X.w) X.A X.env X.xe) (hc:PT X c tc) (hb:PSs X body tb):PS X (.While c body [] pos) (qc tc tb):=by
 intro pins s σ H D I h;obtain ⟨W,⟨m0,w0⟩,turn⟩:=h;refine wpAny_While (codeAny_whileLoop (fun n s'=>∃ σ' H',Inv X pins σ' H' s'/\W n σ' H') ?_ m0 ⟨σ,H,I,w0⟩);rintro n s1 ⟨σ1,H1,I1,w1⟩;refine IS hp (thn (hc pins s1 σ1 H1 _ I1 (turn n σ1 H1 w1)) fun b s2 ⟨H2,I2,q2⟩=>?_);cases b with
 | true =>
  obtain ⟨N,hN,q2⟩:=q2;rw [Ht rfl];refine IS hp (thn (hb pins s2 σ1 H2 _ I2 q2) fun f s3 q3=>?_);cases f with
  | next =>
   obtain ⟨σ3,H3,I3,n3⟩:=q3;obtain ⟨m',hm,w3⟩:=hN σ3 H3 n3;exact ⟨m',hm,σ3,H3,I3,w3⟩
  | cont =>
   obtain ⟨σ3,H3,I3,n3⟩:=q3;obtain ⟨m',hm,w3⟩:=hN σ3 H3 n3;exact ⟨m',hm,σ3,H3,I3,w3⟩
  | brk=>exact q3
  | ret v=>exact q3
 | false =>
  rw [Hv HQ];exact wpAny_execs_nil ⟨σ1,H2,I2,q2⟩
end
structure It where
 go:Nat->Hp->Prop
 yld:Nat->Hp->V->Hp->Prop
 stop:Nat->Hp->Prop
def tW (X:Cx) (pins:List (Addr×Obj)) (H:Hp) (b:Addr):Prop :=
 H b=none/\b≠X.env.locals/\b ∉ X.fs/\(b∈X.ex\/X.s₀.heap.objs.size<=b)/\(∀ x c,X.env.cells.lookup x=some c->c≠b)/\∀ p∈X.pn++pins,p.1≠b
theorem Inv.yK {X:Cx} {pins:List (Addr×Obj)} {σ:St} {H H':Hp} {s:Shared} {b:Addr} (I:Inv X pins σ H s) (hb:s.heap.objs.size<=b) (hn:H' b=none):tW X pins H' b:=by
 refine ⟨hn,Jh (Hy I.lt hb),I.AZ hb,.inr (HJ I.sz hb),fun x c e z=>?_,fun p hp z=>?_⟩
 ·obtain ⟨v,q⟩:=I.cell x c e;exact absurd (Hy q.lt (by rw [z];exact hb)) (HW _)
 ·exact absurd (Hy (Hw (I.pin p hp).1) (by rw [z];exact hb)) (HW _)
structure Turn (P:Program) (w:World) (K:Fg) (tg:Expr) (J:It) (fp:List Addr) (it:Addr) (tn:Nat->Heap->Prop):Prop where
 mem:it∈fp
 obj:∀ i h,tn i h->∀ b∈fp,∃ o,h.get? b=some o/\∀ v,o.data≠.cell v
 keep:∀ i h h',tn i h->(∀ b∈fp,∀ o,h.get? b=some o->h'.get? b=some o)->tn i h'
 item:∀ (X:Cx),X.prog=P->X.w=w->X.K=K->X.calm=true->∀ (i:Nat) (pins:List (Addr×Obj)) (s:Shared) (σ:St) (H:Hp) (E:Value->Shared->Prop),Inv X pins σ H s->(∀ b∈fp,tW X pins H b)->tn i s.heap->J.go i H ->
  wpAny (model P w) X.A (pyNext (.ref it)) (fun r s1=>∃ u,r=some u /\
   wpAny (model P w) X.A (letOwnedTupleGo tg (.ref it) u) (fun _ s2=>∃ x H',Inv X pins σ H' s2/\RelV x u/\J.yld i H x H'/\tn (i+1) s2.heap/\∀ b∈fp,H' b=none) E s1) E s
 done:∀ (X:Cx),X.prog=P->X.w=w->X.K=K->X.calm=true->∀ (i:Nat) (pins:List (Addr×Obj)) (s:Shared) (σ:St) (H:Hp) (E:Value->Shared->Prop),Inv X pins σ H s->(∀ b∈fp,tW X pins H b)->tn i s.heap->J.stop i H ->
  wpAny (model P w) X.A (pyNext (.ref it)) (fun r s1=>r=none/\Inv X pins σ H s1) E s
 self:∀ (A:Around) (i:Nat) (s:Shared) (Q:Value->Shared->Prop) (E:Value->Shared->Prop),tn i s.heap->Q (.ref it) s->wpAny (model P w) A (pyIter (.ref it)) Q E s
abbrev TI:=St->Hp->(It->Hp->Prop)->Prop
def PIE (X:Cx) (pins:List (Addr×Obj)) (σ:St) (tg:Expr) (R:It->Hp->Prop) (itv:Value) (s2:Shared):Prop :=
 ∃ (it:Addr) (fp:List Addr) (tn:Nat->Heap->Prop) (J:It) (H':Hp),itv=.ref it/\Inv X pins σ H' s2/\Turn X.prog X.w X.K tg J fp it tn/\tn 0 s2.heap/\(∀ b∈fp,tW X pins H' b)/\R J H'
def PI (X:Cx) (tg iter:Expr) (wi:TI):Prop :=
 ∀ (pins:List (Addr×Obj)) (s:Shared) (σ:St) (H:Hp) (R:It->Hp->Prop),Inv X pins σ H s->wi σ H R ->
  wpAny (model X.prog X.w) X.A (eval iter X.env) (fun v s1=>wpAny (model X.prog X.w) X.A (pyIter v) (PIE X pins σ tg R) X.xe s1) X.xe s
theorem xb {M:Model} {A:Around} {E:Value->Shared->Prop} {s:Shared} {tg:Expr} {it:Addr} {u:Value} {o:Obj} {n:String} {vs:Array Value} {Q:Unit->Shared->Prop} (ho:s.heap.get? it=some o) (hc:o.cls=.type n) (hd:o.data=.fields vs)
    (hn:["enumerate", "zip", "dict_itemiterator", "dict_reverseitemiterator", "odict_iterator", "itertools.zip_longest", "itertools.pairwise"].contains n=false) (hQ:Q () s):wpAny M A (letOwnedTupleGo tg (.ref it) u) Q E s:=by
  unfold letOwnedTupleGo;cases tg <;> first
    | exact He hQ
    | (cases u <;> first
        | exact He hQ
        | (refine Ha (wpAny_load ho ?_)
           rw [hc,hd];show wpAny M A (if (["enumerate", "zip", "dict_itemiterator", "dict_reverseitemiterator", "odict_iterator", "itertools.zip_longest", "itertools.pairwise"].contains n&&vs[0]?==some (rawInt _))=true then _ else _) Q E s;rw [Hv (by intro h;rw [hn,Bool.false_and] at h;cases h)]
           exact He hQ))
def Itl (K:Fg) (a:Addr):It :=
 ⟨fun i H=>∃ xs x,SqL K H a xs/\xs[i]?=some x,fun i H x H'=>H'=H/\∀ xs,SqL K H a xs->xs[i]?=some x,fun i H=>∃ xs,SqL K H a xs/\xs.length<=i⟩
def Itt (K:Fg) (a:Addr):It :=
 ⟨fun i H=>∃ xs x,SqT K H a xs/\xs[i]?=some x,fun i H x H'=>H'=H/\∀ xs,SqT K H a xs->xs[i]?=some x,fun i H=>∃ xs,SqT K H a xs/\xs.length<=i⟩
def Itr (lo:Int) (n:Nat):It:=⟨fun i _=>i < n,fun i H x H'=>H'=H/\x=.int (lo+i),fun i _=>n<=i⟩
theorem qR {P:Program} {w:World} {K:Fg} {tg:Expr} (a it:Addr):Turn P w K tg (Itl K a) [it] it (fun i h=>h.IsListIter it a i) where
 mem:=by simp
 obj:=fun i h st b hb=>by
  have e:b=it:=by simpa using hb
  subst e;obtain ⟨o,e,c,d⟩:=st;exact ⟨o,e,fun v z=>by rw [d] at z;cases z⟩
 keep:=fun i h h' st k=>st.at fun o e=>k it (by simp) o e
 item:=by
  intro X hP hw hK hc i pins s σ H E I hf st hg;subst hP hw hK;obtain ⟨xs,x,hq,hx⟩:=hg;obtain ⟨its,rv,p,hz⟩:=I.list hq;obtain ⟨u,hu,ru⟩:=rv.get hx;obtain ⟨f0,f1,f2,f3,f4,f5⟩:=hf it (by simp);refine wpAny_pyNext_list_item st p.isList (x:=u) (by simpa using hu) fun h' st' sb=>?_;have I1:Inv X pins σ H { s with heap:=h' }:=I.turned (t':=s.toks) (fun b o hb e=>(sb.2 b hb).trans e) f0 f1 f3 f4 f5;obtain ⟨o,e,c,d⟩:=id st';exact ⟨u,rfl,xb (s:={ s with heap:=h' }) e c d (by decide) ⟨x,H,I1,ru,⟨rfl,fun ys hy=>by rw [I.tT hy hq];exact hx⟩,st',fun b hb=>(hf b hb).1⟩⟩
 done:=by
  intro X hP hw hK hc i pins s σ H E I hf st hg;subst hP hw hK;obtain ⟨xs,hq,hx⟩:=hg;obtain ⟨its,rv,p,hz⟩:=I.list hq;obtain ⟨f0,f1,f2,f3,f4,f5⟩:=hf it (by simp);have hl:=rv.length;exact wpAny_pyNext_list_end (I.ok.hd hc) st p.isList (by simp;omega) fun h' eb=>⟨rfl,I.turned (t':=s.toks) (fun b o hb e=>eb b o hb e) f0 f1 f3 f4 f5⟩
 self:=fun _ _ _ _ _ st h=>wpAny_pyIter_listiter st h
theorem pb {P:Program} {w:World} {K:Fg} {tg:Expr} (a it:Addr):Turn P w K tg (Itt K a) [it] it (fun i h=>h.IsTupleIter it a i) where
 mem:=by simp
 obj:=fun i h st b hb=>by
  have e:b=it:=by simpa using hb
  subst e;obtain ⟨o,e,c,d⟩:=st;exact ⟨o,e,fun v z=>by rw [d] at z;cases z⟩
 keep:=fun i h h' st k=>st.at fun o e=>k it (by simp) o e
 item:=by
  intro X hP hw hK hc i pins s σ H E I hf st hg;subst hP hw hK;obtain ⟨xs,x,hq,hx⟩:=hg;obtain ⟨its,rv,p,hz⟩:=I.tuple hq;obtain ⟨u,hu,ru⟩:=rv.get hx;obtain ⟨f0,f1,f2,f3,f4,f5⟩:=hf it (by simp);refine wpAny_pyNext_tuple_item st (show s.heap.IsTuple a its.toArray from p) (x:=u) (by simpa using hu) fun h' st' sb=>?_;have I1:Inv X pins σ H { s with heap:=h' }:=I.turned (t':=s.toks) (fun b o hb e=>(sb.2 b hb).trans e) f0 f1 f3 f4 f5;obtain ⟨o,e,c,d⟩:=id st';exact ⟨u,rfl,xb (s:={ s with heap:=h' }) e c d (by decide) ⟨x,H,I1,ru,⟨rfl,fun ys hy=>by rw [I.pN hy hq];exact hx⟩,st',fun b hb=>(hf b hb).1⟩⟩
 done:=by
  intro X hP hw hK hc i pins s σ H E I hf st hg;subst hP hw hK;obtain ⟨xs,hq,hx⟩:=hg;obtain ⟨its,rv,p,hz⟩:=I.tuple hq;obtain ⟨f0,f1,f2,f3,f4,f5⟩:=hf it (by simp);have hl:=rv.length;exact wpAny_pyNext_tuple_end (I.ok.hd hc) st (show s.heap.IsTuple a its.toArray from p) (by simp;omega) fun h' eb=>⟨rfl,I.turned (t':=s.toks) (fun b o hb e=>eb b o hb e) f0 f1 f3 f4 f5⟩
 self:=fun _ _ _ _ _ st h=>wpAny_pyIter_tupleiter st h
theorem oF {P:Program} {w:World} {K:Fg} {tg:Expr} (it:Addr) (lo:Int) (n:Nat):Turn P w K tg (Itr lo n) [it] it (fun i h=>IsRangeIter h it (lo+(i:Nat)*1) ((n:Int) - (i:Nat)) 1) where
 mem:=by simp
 obj:=fun i h st b hb=>by
  have e:b=it:=by simpa using hb
  subst e
  exact ⟨_,st,fun v z=>by
   have z':Data.fields _=Data.cell v:=z
   cases z'⟩
 keep:=fun i h h' st k=>k it (by simp) _ st
 item:=by
  intro X hP hw hK hc i pins s σ H E I hf st hg;subst hP hw hK;obtain ⟨f0,f1,f2,f3,f4,f5⟩:=hf it (by simp);have W:=Walks.range (prog:=X.prog) (w:=X.w) (I.ok.hd hc) it lo 1 n;refine W.item i s _ _ hg st fun v h' tk hv st' kk=>?_;obtain ⟨t,rfl⟩:=hv;have I1:Inv X pins σ H { s with heap:=h',toks:=tk }:=I.turned (fun b o hb e=>kk b o (by simpa using hb) e) f0 f1 f3 f4 f5;refine ⟨_,rfl,xb (s:={ s with heap:=h',toks:=tk }) (n := "range_iterator") st' rfl rfl (by decide) ⟨.int (lo+i),H,I1,⟨t,?_⟩,⟨rfl,rfl⟩,st',fun b hb=>(hf b hb).1⟩⟩;rw [Int.mul_one]
 done:=by
  intro X hP hw hK hc i pins s σ H E I hf st hg;subst hP hw hK;obtain ⟨f0,f1,f2,f3,f4,f5⟩:=hf it (by simp);exact wpAny_pyNext_range_end (I.ok.hd hc) st (by have:n<=i:=hg;omega) fun h' eb=>⟨rfl,I.turned (t':=s.toks) (fun b o hb e=>eb b o hb e) f0 f1 f3 f4 f5⟩
 self:=fun _ _ _ _ _ st h=>wpAny_pyIter_rangeiter st h
end L2
namespace L2
open PySem PySem.Spec PyProof.Rows
section
variable {X:Cx} {tg:Expr}
def tZ (K:Fg) (tl:TE):TI:=fun σ H R=>tl σ H fun x H1=>∃ a,x=.ref a/\(∃ xs,SqL K H1 a xs)/\R (Itl K a) H1
def B1 (K:Fg) (tl:TE):TI:=fun σ H R=>tl σ H fun x H1=>∃ a,x=.ref a/\(∃ xs,SqT K H1 a xs)/\R (Itt K a) H1
theorem wy {l:Expr} {tl:TE} (hl:PE X l tl):PI X tg l (tZ X.K tl):=by
 intro pins s σ H R I h;refine thn (hl pins s σ H _ I h) fun v s1 ⟨x,H1,I1,r1,q1⟩=>?_;obtain ⟨a,e,⟨xs,hq⟩,q⟩:=q1;subst e;cases r1;obtain ⟨its,rv,p,hz⟩:=I1.list hq;refine wpAny_pyIter_list p.isList ?_;refine ⟨s1.heap.objs.size,[s1.heap.objs.size],_,_,H1,rfl,I1.kept (t':=s1.toks) fun b o e=>Hg _ e,qR a _,⟨_,HC _ rfl,rfl,rfl⟩,fun b hb=>?_,q⟩;have e:b=s1.heap.objs.size:=by simpa using hb
 subst e;exact I1.yK (Hl _) (I1.hok.fresh (Hl _))
theorem Aq {l:Expr} {tl:TE} (hl:PE X l tl):PI X tg l (B1 X.K tl):=by
 intro pins s σ H R I h;refine thn (hl pins s σ H _ I h) fun v s1 ⟨x,H1,I1,r1,q1⟩=>?_;obtain ⟨a,e,⟨xs,hq⟩,q⟩:=q1;subst e;cases r1;obtain ⟨its,rv,p,hz⟩:=I1.tuple hq;refine wpAny_pyIter_tuple (show s1.heap.IsTuple a its.toArray from p) ?_;refine ⟨s1.heap.objs.size,[s1.heap.objs.size],_,_,H1,rfl,I1.kept (t':=s1.toks) fun b o e=>Hg _ e,pb a _,⟨_,HC _ rfl,rfl,rfl⟩,fun b hb=>?_,q⟩;have e:b=s1.heap.objs.size:=by simpa using hb
 subst e;exact I1.yK (Hl _) (I1.hok.fresh (Hl _))
theorem ue {pins:List (Addr×Obj)} {σ:St} {H:Hp} {s:Shared} {R:It->Hp->Prop} {E:Value->Shared->Prop} {lo hi:Int} {t u v:Tok} {tk:Nat} (I:Inv X pins σ H s) (h1:-(2 ^ 62)<=lo) (h2:lo < 2 ^ 62) (h3:-(2 ^ 62)<=hi) (h4:hi < 2 ^ 62)
  (q:R (Itr lo (hi - lo).toNat) H):wpAny (model X.prog X.w) X.A (pyIter (.ref s.heap.objs.size)) (PIE X pins σ tg R) E { s with heap:=s.heap.push { cls:=.type "range", data:=.fields #[.int lo t,.int hi u,.int 1 v] },toks:=tk }:=by
 refine wpAny_pyIter_range (IsRange.new ..) (small_one h1 h2 h3 h4) ?_;have I1:Inv X pins σ H { s with heap:=s.heap.push { cls:=.type "range", data:=.fields #[.int lo t,.int hi u,.int 1 v] },toks:=tk }:=I.kept fun b o e=>Hg _ e
 refine ⟨(s.heap.push { cls:=.type "range", data:=.fields #[.int lo t,.int hi u,.int 1 v] }).objs.size,[(s.heap.push { cls:=.type "range", data:=.fields #[.int lo t,.int hi u,.int 1 v] }).objs.size],_,_,H,rfl,
  I1.kept (t':=tk) fun b o e=>Hg _ e,oF _ lo (hi - lo).toNat,?_,fun b hb=>?_,q⟩
 ·have e1:lo+((0:Nat):Int)*1=lo:=by simp
  have e2:(((hi - lo).toNat:Nat):Int) - ((0:Nat):Int)=Builtin.Range.rangeSize lo hi 1:=by rw [rangeSize_one];split <;> omega
  show IsRangeIter _ _ (lo+((0:Nat):Int)*1) ((((hi - lo).toNat:Nat):Int) - ((0:Nat):Int)) 1;rw [e1,e2];exact HC _ rfl
 ·have e:b=(s.heap.push { cls:=.type "range", data:=.fields #[.int lo t,.int hi u,.int 1 v] }).objs.size:=by simpa using hb
  subst e;exact I1.yK (Hl _) (I1.hok.fresh (Hl _))
def wK (ta:TA):TI:=fun σ H R=>ta σ H fun vs H1=>∃ j:Int,vs=[.int j]/\-(2 ^ 62)<=j/\j < 2 ^ 62/\R (Itr 0 j.toNat) H1
def C0 (ta:TA):TI:=fun σ H R=>ta σ H fun vs H1=>∃ i j:Int,vs=[.int i,.int j]/\(-(2 ^ 62)<=i/\i < 2 ^ 62/\-(2 ^ 62)<=j/\j < 2 ^ 62)/\R (Itr i (j - i).toNat) H1
theorem p4 {a:Expr} {ta:TA} {p pos:Pos} (hg:Gl X "range") (hm:X.mg "range" = none) (ha:PA X [a] ta) (hs:starEach [a] X.env=[(false,eval a X.env)]:=by rfl):PI X tg (.Call (.Name "range" p) [a] [] pos) (wK ta):=by
 intro pins s σ H R I h;refine Call_ (i7 I hg hm boot_range (PyProof.Rows.callWith_type1 (thn (ha pos pins s σ H _ I h) fun us s1 ⟨vs,H1,I1,r1,q1⟩=>?_) hs rfl));obtain ⟨j,e,q1,q2,q⟩:=q1;subst e;cases r1 with
 | cons r rr =>
  cases rr;obtain ⟨t,rfl⟩:=r;exact call_range_1 (ue I1 (by omega) (by omega) q1 q2 (by simpa using q))
def Bm (wi:TI) (g:TG) (tb:TS):TS:=fun D σ H=>wi σ H fun J H1=>∃ W:Nat->Nat->St->Hp->Prop,(∃ m,W 0 m σ H1)/\∀ i m σ H,W i m σ H ->
 (J.stop i H/\D.nx σ H)\/(J.go i H/\∃ N:St->Hp->Prop,(∀ σ' H',N σ' H'->∃ m',m' < m/\W (i+1) m' σ' H')/\∀ x H',J.yld i H x H'->g x σ H' fun σ2 H2=>tb { D with nx:=N,ct:=N,bk:=D.nx } σ2 H2)
noncomputable def kB (fp:List Addr) (h:Heap):List (Addr×Obj):=fp.filterMap fun b=>(h.get? b).map fun o=>(b,o)
theorem cU {fp:List Addr} {h:Heap} {b:Addr} {o:Obj} (hb:b∈fp) (e:h.get? b=some o):(b,o)∈kB fp h:=List.mem_filterMap.mpr ⟨b,hb,by rw [e];rfl⟩
theorem qW {fp:List Addr} {h:Heap} {p:Addr×Obj} (hp:p∈kB fp h):p.1∈fp/\h.get? p.1=some p.2:=by
 obtain ⟨b,hb,e⟩:=List.mem_filterMap.mp hp;cases q:h.get? b with
 | none=>rw [q] at e;cases e
 | some o =>
  rw [q] at e;have e':(b,o)=p:=HU e;subst e';exact ⟨hb,q⟩
theorem Inv.pinned {pins:List (Addr×Obj)} {σ:St} {H:Hp} {s:Shared} {fp:List Addr} (I:Inv X pins σ H s) (hf:∀ b∈fp,tW X pins H b) (ho:∀ b∈fp,∃ o,s.heap.get? b=some o/\∀ v,o.data≠.cell v):Inv X (pins++kB fp s.heap) σ H s :=
 I.bZ fun p hp=>(HK.mp hp).elim (fun z=>I.pin p (Hn _ z)) fun z=>by
  obtain ⟨hb,e⟩:=qW z;obtain ⟨f0,f1,f2,_⟩:=hf p.1 hb;obtain ⟨o,e',d⟩:=ho p.1 hb;rw [e] at e';cases e';exact ⟨e,f0,f1,f2,d⟩
theorem Inv.fK {pins pl:List (Addr×Obj)} {σ:St} {H:Hp} {s:Shared} (I:Inv X (pins++pl) σ H s):Inv X pins σ H s:=I.bZ fun p hp=>I.pin p (Hn _ (HY _ hp))
theorem z7 {iter:Expr} {body:List Stmt} {wi:TI} {g:TG} {tb:TS} {pos:Pos} (hp:PassesOwn (model X.prog X.w) X.A X.env X.xe) (hc:X.calm=true) (hi:PI X tg iter wi) (hg:PG X tg g) (hb:PSs X body tb)
  (hs:∀ x,foldedSetIterable iter X.env x=pure x:=by intro _;rfl):PS X (.For tg iter body [] pos) (Bm wi g tb):=by
 intro pins s σ H D I h;refine wpAny_For (thn (hi pins s σ H _ I h) fun v s1 h1=>thn h1 fun itv s2 h2=>?_) hs;obtain ⟨it,fp,tn,J,H2,e,I2,T,st2,f2,W,⟨m0,w0⟩,turn⟩:=h2;subst e;have stat:∀ {H':Hp},(∀ b∈fp,H' b=none)->∀ b∈fp,tW X pins H' b:=fun hn b hb=>⟨hn b hb,(f2 b hb).2⟩;refine codeAny_forLoop_any (fun n s'=>∃ i σ' H',Inv X pins σ' H' s'/\tn i s'.heap/\(∀ b∈fp,H' b=none)/\W i n σ' H') ?_ m0 ⟨0,σ,H2,I2,st2,fun b hb=>(f2 b hb).1,w0⟩;rintro n s3 ⟨i,σ3,H3,I3,st3,fr3,w3⟩;rcases turn i n σ3 H3 w3 with ⟨stop,qn⟩ | ⟨go,N,hN,step⟩
 ·refine IS hp (thn (T.done X rfl rfl rfl hc i pins s3 σ3 H3 X.xe I3 (stat fr3) st3 stop) fun r s4 ⟨hr,I4⟩=>?_);subst hr;exact wpAny_execs_nil ⟨σ3,H3,I4,qn⟩
 ·refine IS hp (thn (T.item X rfl rfl rfl hc i pins s3 σ3 H3 X.xe I3 (stat fr3) st3 go) fun r s4 ⟨u,hr,h4⟩=>?_);subst hr;refine IS hp (thn h4 fun _ s5 ⟨x,H5,I5,r5,y5,st5,fr5⟩=>?_);have I5':=I5.pinned (stat fr5) (T.obj _ _ st5);refine IS hp (thn (hg _ s5 σ3 H5 x u _ I5' r5 (step x H5 y5)) fun _ s6 ⟨σ6,H6,I6,q6⟩=>?_);refine IS hp (thn (hb _ s6 σ6 H6 _ I6 q6) fun f s7 q7=>?_);have again:∀ {σ7:St} {H7:Hp},Inv X (pins++kB fp s5.heap) σ7 H7 s7->N σ7 H7->∃ m,m < n/\∃ i σ' H',Inv X pins σ' H' s7/\tn i s7.heap/\(∀ b∈fp,H' b=none)/\W i m σ' H':=fun {σ7 H7} I7 n7=>by
   obtain ⟨m',hm,w7⟩:=hN σ7 H7 n7;refine ⟨m',hm,i+1,σ7,H7,I7.fK,T.keep _ _ _ st5 fun b hb o e=>(I7.pin (b,o) (Hn _ (Hn _ (cU hb e)))).1,fun b hb=>?_,w7⟩;obtain ⟨o,e,d⟩:=T.obj _ _ st5 b hb;exact (I7.pin (b,o) (Hn _ (Hn _ (cU hb e)))).2.1
  cases f with
  | next=>obtain ⟨σ7,H7,I7,n7⟩:=q7;exact again I7 n7
  | cont=>obtain ⟨σ7,H7,I7,n7⟩:=q7;exact again I7 n7
  | brk=>obtain ⟨σ7,H7,I7,q7⟩:=q7;exact ⟨σ7,H7,I7.fK,q7⟩
  | ret v=>obtain ⟨x7,σ7,H7,I7,r7,q7⟩:=q7;exact ⟨x7,σ7,H7,I7.fK,r7,q7⟩
end
end L2
namespace L2
open PySem PySem.Spec PyProof.Rows
abbrev R2:=V->V->Hp->VK->Prop
def OpR (X:Cx) (f:Value->Value->Sem Value) (r:R2):Prop :=
 ∀ (pins:List (Addr×Obj)) (s:Shared) (σ:St) (H:Hp) (x y:V) (v u:Value) (Q:VK),Inv X pins σ H s->RelV x v->RelV y u->r x y H Q ->
  wpAny (model X.prog X.w) X.A (f v u) (EP X pins σ Q) X.xe s
def aS (X:Cx) (f:Value) (r:List V->Hp->VK->Prop):Prop :=
 ∀ (pins:List (Addr×Obj)) (s:Shared) (σ:St) (H:Hp) (xs:List V) (us:List Value) (Q:VK),Inv X pins σ H s->Vals xs us->r xs H Q ->
  wpAny (model X.prog X.w) X.A (call f us) (EP X pins σ Q) X.xe s
def FY (X:Cx) (r:V->Hp->(Bool->Hp->Prop)->Prop):Prop :=
 ∀ (pins:List (Addr×Obj)) (s:Shared) (σ:St) (H:Hp) (x:V) (v:Value) (Q:Bool->Hp->Prop),Inv X pins σ H s->RelV x v->r x H Q ->
  wpAny (model X.prog X.w) X.A (truthy v) (TP X pins σ Q) X.xe s
def tOp (r:R2) (ta tb:TE):TE:=fun σ H Q=>ta σ H fun x H1=>tb σ H1 fun y H2=>r x y H2 Q
def rI (C:Int->Int->Prop) (g:Int->Int->V):R2:=fun x y H Q=>∃ i j,x=.int i/\y=.int j/\C i j/\Q (g i j) H
def rI0 (g:Int->Int->V):R2:=fun x y H Q=>∃ i j,x=.int i/\y=.int j/\Q (g i j) H
def rU (g:Int->V):V->Hp->VK->Prop:=fun x H Q=>∃ i,x=.int i/\Q (g i) H
section
variable {X:Cx} {a b c:Expr} {ta tb tc:TE} {pos:Pos}
theorem EJ (ha:PE X a ta) (hb:PE X b tb) {pins:List (Addr×Obj)} {s:Shared} {σ:St} {H:Hp} {R:V->V->Hp->Prop} (I:Inv X pins σ H s)
  (h:ta σ H fun x H1=>tb σ H1 fun y H2=>R x y H2) {Q:Value->Shared->Prop} {f:Value->Value->Sem Value}
  (hf:∀ v u s2 x y H2,Inv X pins σ H2 s2->RelV x v->RelV y u->R x y H2->wpAny (model X.prog X.w) X.A (f v u) Q X.xe s2) :
  wpAny (model X.prog X.w) X.A (eval a X.env) (fun v s₁=>wpAny (model X.prog X.w) X.A (eval b X.env) (fun u s₂=>wpAny (model X.prog X.w) X.A (f v u) Q X.xe s₂) X.xe s₁) X.xe s:=by
 refine thn (ha pins s σ H _ I h) fun v s1 ⟨x,H1,I1,r1,q1⟩=>?_;refine thn (hb pins s1 σ H1 _ I1 q1) fun u s2 ⟨y,H2,I2,r2,q2⟩=>?_;exact hf v u s2 x y H2 I2 r1 r2 q2
theorem DV {op:Operator} {r:R2} (ho:OpR X (binaryOp op) r) (ha:PE X a ta) (hb:PE X b tb):PE X (.BinOp a op b pos) (tOp r ta tb):=by
 intro pins s σ H Q I h;exact wpAny_BinOp (EJ ha hb I h fun v u s2 x y H2 I2 rx ry q=>ho pins s2 σ H2 x y v u Q I2 rx ry q)
theorem opI {f:Value->Value->Sem Value} {C:Int->Int->Prop} {g:Int->Int->Int}
  (rule:∀ (i j:Int) (t u:Tok) (s:Shared) (Q:Value->Shared->Prop) (E:Value->Shared->Prop),C i j->Q (.int (g i j) s.toks) { s with toks:=s.toks+1 }->wpAny (model X.prog X.w) X.A (f (.int i t) (.int j u)) Q E s) :
  OpR X f (rI C fun i j=>.int (g i j)):=by
 intro pins s σ H x y v u Q I rx ry h;obtain ⟨i,j,rfl,rfl,hc,q⟩:=h;obtain ⟨t,rfl⟩:=rx;obtain ⟨t',rfl⟩:=ry;exact rule i j t t' s _ _ hc ⟨.int (g i j),H,I.tok _,⟨_,rfl⟩,q⟩
theorem Fw {f:Value->Value->Sem Value} {g:Int->Int->Int}
  (rule:∀ (i j:Int) (t u:Tok) (s:Shared) (Q:Value->Shared->Prop) (E:Value->Shared->Prop),Q (.int (g i j) s.toks) { s with toks:=s.toks+1 }->wpAny (model X.prog X.w) X.A (f (.int i t) (.int j u)) Q E s) :
  OpR X f (rI0 fun i j=>.int (g i j)):=by
 intro pins s σ H x y v u Q I rx ry h;obtain ⟨i,j,rfl,rfl,q⟩:=h;obtain ⟨t,rfl⟩:=rx;obtain ⟨t',rfl⟩:=ry;exact rule i j t t' s _ _ ⟨.int (g i j),H,I.tok _,⟨_,rfl⟩,q⟩
theorem B9 {f:Value->Value->Sem Value} {g:Int->Int->Bool}
  (rule:∀ (i j:Int) (t u:Tok) (s:Shared) (Q:Value->Shared->Prop) (E:Value->Shared->Prop),Q (.bool (g i j)) s->wpAny (model X.prog X.w) X.A (f (.int i t) (.int j u)) Q E s) :
  OpR X f (rI0 fun i j=>.bl (g i j)):=by
 intro pins s σ H x y v u Q I rx ry h;obtain ⟨i,j,rfl,rfl,q⟩:=h;obtain ⟨t,rfl⟩:=rx;obtain ⟨t',rfl⟩:=ry;exact rule i j t t' s _ _ ⟨.bl (g i j),H,I,rfl,q⟩
def FJ (i j:Int):Prop:=0<=j/\j<=1000000/\i.natAbs < 2 ^ 64
def Ay (i j:Int):Prop:=(-(2 ^ 64) < i/\i < 2 ^ 64)\/(-(2 ^ 64) < j/\j < 2 ^ 64)
theorem Ay.ok {i j:Int} (h:Ay i j):IntMulOk i j:=by
 rcases h with ⟨h1,h2⟩ | ⟨h1,h2⟩
 ·exact .of_left (intBits_le_64 h1 h2)
 ·exact .of_right (intBits_le_64 h1 h2)
theorem BE:OpR X (binaryOp .Add) (rI0 fun i j=>.int (i+j)):=Fw fun _ _ _ _ _ _ _ q=>add_int q
theorem Ao:OpR X (binaryOp .Sub) (rI0 fun i j=>.int (i - j)):=Fw fun _ _ _ _ _ _ _ q=>sub_int q
theorem yH:OpR X (binaryOp .Mult) (rI Ay fun i j=>.int (i*j)):=opI fun _ _ _ _ _ _ _ hc q=>mul_int q hc.ok
theorem zf:OpR X (binaryOp .Mod) (rI (fun _ j=>0 < j) fun i j=>.int (i % j)):=opI fun i j _ _ _ _ _ hc q=>by
 have h1:(0:Int) < j:=hc;exact mod_int' (by omega) (by rw [Int.fmod_eq_emod_of_nonneg i (by omega)];exact q)
theorem y0:OpR X (binaryOp .Pow) (rI FJ fun i j=>.int (i ^ j.toNat)):=opI fun _ _ _ _ _ _ _ hc q=>pow_int_small hc.1 hc.2.1 hc.2.2 q
end
section
variable {X:Cx} {a b c:Expr} {ta tb tc:TE} {pos:Pos}
theorem vO {pins:List (Addr×Obj)} {σ:St} {H:Hp} {s:Shared} {Q:VK} {k k':Bool} (I:Inv X pins σ H s) (q:Q (.bl k) H) (e:k=k'):EP X pins σ Q (.bool k') s:=by
 subst e;exact ⟨.bl k,H,I,rfl,q⟩
theorem EG:OpR X (compareOp .Lt) (rI0 fun i j=>.bl (decide (i < j))):=B9 fun _ _ _ _ _ _ _ q=>lt_int q
theorem EZ:OpR X (compareOp .LtE) (rI0 fun i j=>.bl (decide (i<=j))):=B9 fun _ _ _ _ _ _ _ q=>le_int q
theorem CS:OpR X (compareOp .Gt) (rI0 fun i j=>.bl (decide (j < i))):=B9 fun _ _ _ _ _ _ _ q=>gt_int q
theorem Et:OpR X (compareOp .GtE) (rI0 fun i j=>.bl (decide (j<=i))):=B9 fun _ _ _ _ _ _ _ q=>ge_int q
theorem pO:OpR X (compareOp .Lt) (fun x y H Q=>∃ i j,x=.str i/\y=.str j/\Q (.bl (decide (i.cps.toList < j.cps.toList))) H):=by
 intro pins s σ H x y v u Q I rx ry h;obtain ⟨i,j,rfl,rfl,q⟩:=h;obtain ⟨t,rfl⟩:=rx;obtain ⟨t',rfl⟩:=ry;exact lt_str (vO I q rfl)
theorem qJ:OpR X (compareOp .In) (fun x y H Q=>∃ i j,x=.str i/\y=.str j/\Q (.bl (!(Builtin.Str.occurrences j i 0 j.length 1).isEmpty)) H):=by
 intro pins s σ H x y v u Q I rx ry h;obtain ⟨i,j,rfl,rfl,q⟩:=h;obtain ⟨t,rfl⟩:=rx;obtain ⟨t',rfl⟩:=ry;exact in_str (vO I q rfl)
theorem gN (b:Expr) {op:CmpOp} (h:op≠.In:=by decide) (h2:op≠.NotIn:=by decide):behindInMarks op b=false:=by
 have e1:(op==CmpOp.In)=false:=by cases op <;> first | rfl | exact absurd rfl h
 have e2:(op==CmpOp.NotIn)=false:=by cases op <;> first | rfl | exact absurd rfl h2
 cases b <;> simp [behindInMarks,e1,e2]
theorem xH {op:CmpOp} {r:R2} (ho:OpR X (compareOp op) r) (ha:PE X a ta) (hb:PE X b tb) (hm:behindInMarks op b=false):PE X (.Compare a [op] [b] pos) (tOp r ta tb):=by
 intro pins s σ H Q I h;exact wpAny_Compare1 (EJ ha hb I h fun v u s2 x y H2 I2 rx ry q=>ho pins s2 σ H2 x y v u Q I2 rx ry q) hm
def rY (t:TE):TT:=fun σ H Q=>t σ H fun x H'=>∃ k,x=.bl k/\Q k H'
theorem v9 {op:CmpOp} {r:R2} (ho:OpR X (compareOp op) r) (ha:PE X a ta) (hb:PE X b tb) (hm:behindInMarks op b=false):PT X (.Compare a [op] [b] pos) (rY (tOp r ta tb)):=by
 intro pins s σ H Q I h
 refine wpAny_isTrue_Compare1 (thn (ha pins s σ H _ I h) fun v s1 ⟨x,H1,I1,r1,q1⟩=>thn (hb pins s1 σ H1 _ I1 q1) fun u s2 ⟨y,H2,I2,r2,q2⟩ =>
  thn (ho pins s2 σ H2 x y v u _ I2 r1 r2 q2) fun c s3 ⟨z,H3,I3,r3,k,e,q3⟩=>?_) hm
 subst e;cases r3;exact HV ⟨H3,I3,q3⟩
def kg (r r':R2) (ta tb tc:TE):TE:=fun σ H Q=>ta σ H fun x H1=>tb σ H1 fun y H2=>r x y H2 fun z H3=>∃ k,z=.bl k /\
 (if k=true then tc σ H3 fun w' H4=>r' y w' H4 Q else Q (.bl false) H3)
theorem tM {op op':CmpOp} {r r':R2} (ho:OpR X (compareOp op) r) (ho':OpR X (compareOp op') r') (ha:PE X a ta) (hb:PE X b tb) (hc:PE X c tc)
  (hm:lastMarks [op,op'] [b,c]=false:=by with_unfolding_all rfl):PE X (.Compare a [op,op'] [b,c] pos) (kg r r' ta tb tc):=by
 intro pins s σ H Q I h
 refine Compare_chain (thn (ha pins s σ H _ I h) fun v s1 ⟨x,H1,I1,r1,q1⟩=>chain_link (thn (hb pins s1 σ H1 _ I1 q1) fun u s2 ⟨y,H2,I2,r2,q2⟩ =>
  thn (ho pins s2 σ H2 x y v u _ I2 r1 r2 q2) fun d s3 ⟨z,H3,I3,r3,k,e,q3⟩=>?_)) hm
 subst e;cases r3;refine HV ?_;cases k with
 | false=>exact ite_ff ⟨.bl false,H3,I3,rfl,q3⟩
 | true=>exact ite_tt (chain_last (thn (hc pins s3 σ H3 _ I3 q3) fun w' s4 ⟨z',H4,I4,r4,q4⟩=>ho' pins s4 σ H4 y z' u w' Q I4 r2 r4 q4))
theorem tF {op op':CmpOp} {r r':R2} (ho:OpR X (compareOp op) r) (ho':OpR X (compareOp op') r') (ha:PE X a ta) (hb:PE X b tb) (hc:PE X c tc)
  (hm:lastMarks [op,op'] [b,c]=false:=by with_unfolding_all rfl):PT X (.Compare a [op,op'] [b,c] pos) (rY (kg r r' ta tb tc)):=by
 intro pins s σ H Q I h
 refine isTrue_chain (thn (ha pins s σ H _ I h) fun v s1 ⟨x,H1,I1,r1,q1⟩=>test_link (thn (hb pins s1 σ H1 _ I1 q1) fun u s2 ⟨y,H2,I2,r2,q2⟩ =>
  thn (ho pins s2 σ H2 x y v u _ I2 r1 r2 q2) fun d s3 ⟨z,H3,I3,r3,k,e,q3⟩=>?_)) hm
 subst e;cases r3;refine HV ?_;cases k with
 | false =>
  obtain ⟨k',e',q'⟩:=q3;cases e';exact ite_ff ⟨H3,I3,q'⟩
 | true =>
  refine ite_tt (test_last (thn (hc pins s3 σ H3 _ I3 q3) fun w' s4 ⟨z',H4,I4,r4,q4⟩=>thn (ho' pins s4 σ H4 y z' u w' _ I4 r2 r4 q4) fun d' s5 ⟨z2,H5,I5,r5,k2,e2,q5⟩=>?_));subst e2;cases r5;exact HV ⟨H5,I5,q5⟩
def Ca (K:Fg) (x:V) (H:Hp) (k:Bool):Prop :=
 match x with
 | .non=>k=false
 | .bl b=>k=b
 | .int i=>k=(i != 0)
 | .str y=>y.length<=sizeLine/\k=((y.length:Int) != 0)
 | .byt y=>y.size<=sizeLine/\k=((y.size:Int) != 0)
 | .ref p=>(∃ xs,SqL K H p xs/\k=!xs.isEmpty)\/(∃ xs,SqT K H p xs/\k=!xs.isEmpty)\/∃ kvs,H p=some (.dK kvs)/\k=!kvs.isEmpty
 | _=>False
theorem oR {κ:Type} {kvs:List (κ×V)} {vs:List (κ×Value)} (r:KV kvs vs):(!vs.isEmpty)=!kvs.isEmpty:=by
 cases r <;> rfl
theorem iZ {xs:List V} {its:List Value} (r:Vals xs its):(!its.toArray.isEmpty)=!xs.isEmpty:=by
 cases r <;> simp
theorem i3:(sizeLine:Nat) < 2 ^ 63:=by rw [Io];decide
theorem FI:FY X (fun x H Q=>∃ k,Ca X.K x H k/\Q k H):=by
 intro pins s σ H x v Q I rx h;obtain ⟨k,e,q⟩:=h;have hl:=i3;have hs:sizeLine=16777216:=Io;cases x with
 | non =>
  cases rx;have e':k=false:=e;subst e';exact truthy_none ⟨H,I,q⟩
 | bl b =>
  cases rx;have e':k=b:=e;subst e';exact HV ⟨H,I,q⟩
 | int i =>
  obtain ⟨t,rfl⟩:=rx;have e':k=(i != 0):=e;subst e';exact PySem.P.truthy_int ⟨H,I,q⟩
 | str y =>
  obtain ⟨t,rfl⟩:=rx;obtain ⟨hy,e'⟩:y.length<=sizeLine/\k=((y.length:Int) != 0):=e;subst e';exact PySem.P.truthy_str (by omega) ⟨H,I.tok _,q⟩
 | byt y =>
  obtain ⟨t,rfl⟩:=rx;obtain ⟨hy,e'⟩:y.size<=sizeLine/\k=((y.size:Int) != 0):=e;subst e';exact PySem.W.truthy_bytes (by omega) ⟨H,I.tok _,q⟩
 | ref p =>
  cases rx;have e':(∃ xs,SqL X.K H p xs/\k=!xs.isEmpty)\/(∃ xs,SqT X.K H p xs/\k=!xs.isEmpty)\/∃ kvs,H p=some (.dK kvs)/\k=!kvs.isEmpty:=e;rcases e' with ⟨xs,hx,e'⟩ | ⟨xs,hx,e'⟩ | ⟨kvs,hx,e'⟩
  ·subst e';obtain ⟨its,r,pl,hz⟩:=I.list hx;have hlen:=r.length;exact wpAny_truthy_list pl.isList (by simp only [Hr];omega) ⟨H,I.tok _,by rw [iZ r];exact q⟩
  ·subst e';obtain ⟨its,r,pl,hz⟩:=I.tuple hx;have hlen:=r.length;exact truthy_tuple pl (by simp only [Hr];omega) ⟨H,I.tok _,by rw [iZ r];exact q⟩
  ·subst e';obtain ⟨hz,hS,vs,r,m⟩:kvs.length<=sizeLine/\(p==sysModules)=false/\∃ vs,KV kvs vs/\s.heap.DictOf (aj X.prog X.w) p vs:=I.hok p _ hx;have hlen:kvs.length=vs.length:=Im r;exact wpAny_truthy_dict hS m (by omega) ⟨H,I.tok _,by rw [oR r];exact q⟩
 | _=>exact (show False from e).elim
theorem ou:OpR X (binaryOp .Add) (fun x y H Q=>∃ i j,x=.str i/\y=.str j/\i.length+j.length<=sizeLine/\Q (.str (i++j)) H):=by
 intro pins s σ H x y v u Q I rx ry h;obtain ⟨i,j,rfl,rfl,hz,q⟩:=h;obtain ⟨t,rfl⟩:=rx;obtain ⟨t',rfl⟩:=ry;exact add_str (fun t' tk=>⟨.str (i++j),H,I.tok _,⟨_,rfl⟩,q⟩) hz
theorem vals1 {x:V} {us:List Value} (r:Vals [x] us):∃ u,us=[u]/\RelV x u:=by
 cases r with
 | cons r1 r2=>cases r2;exact ⟨_,rfl,r1⟩
theorem vals2 {x y:V} {us:List Value} (r:Vals [x,y] us):∃ u w',us=[u,w']/\RelV x u/\RelV y w':=by
 cases r with
 | cons r1 r2 =>
  cases r2 with
  | cons r3 r4=>cases r4;exact ⟨_,_,rfl,r1,r3⟩
theorem tK:aS X (.builtin "abs") (fun xs H Q=>∃ i,xs=[.int i]/\Q (.int (if i < 0 then -i else i)) H):=by
 intro pins s σ H xs us Q I r h;obtain ⟨i,rfl,q⟩:=h;obtain ⟨u,rfl,t,rfl⟩:=vals1 r;exact call_abs_int fun u tk=>⟨.int (if i < 0 then -i else i),H,I.tok _,⟨_,rfl⟩,q⟩
theorem pT:aS X (.type "int") (fun xs H Q=>(∃ i,xs=[.int i]/\Q (.int i) H)\/∃ k,xs=[.bl k]/\Q (.int (if k then 1 else 0)) H):=by
 intro pins s σ H xs us Q I r h;rcases h with ⟨i,rfl,q⟩ | ⟨k,rfl,q⟩
 ·obtain ⟨u,rfl,t,rfl⟩:=vals1 r;exact call_int_int ⟨.int i,H,I,⟨_,rfl⟩,q⟩
 ·obtain ⟨u,rfl,r1⟩:=vals1 r;cases r1;exact call_int_bool ⟨.int (if k then 1 else 0),H,I.tok _,⟨_,rfl⟩,q⟩
def Fq (K:Fg) (x:V) (H:Hp) (n:Nat):Prop :=
 match x with
 | .str y=>y.length<=sizeLine/\n=y.length
 | .byt y=>y.size<=sizeLine/\n=y.size
 | .ref p=>(∃ xs,SqL K H p xs/\n=xs.length)\/∃ xs,SqT K H p xs/\n=xs.length
 | _=>False
theorem sY:aS X (.builtin "len") (fun xs H Q=>∃ x n,xs=[x]/\Fq X.K x H n/\Q (.int n) H):=by
 intro pins s σ H xs us Q I r h;obtain ⟨x,n,rfl,e,q⟩:=h;obtain ⟨u,rfl,rx⟩:=vals1 r;have hl:=i3;have hs:sizeLine=16777216:=Io;cases x with
 | str y =>
  obtain ⟨t,rfl⟩:=rx;obtain ⟨hy,e'⟩:y.length<=sizeLine/\n=y.length:=e;subst e';exact len_str (by omega) ⟨.int _,H,I.tok _,⟨_,rfl⟩,q⟩
 | byt y =>
  obtain ⟨t,rfl⟩:=rx;obtain ⟨hy,e'⟩:y.size<=sizeLine/\n=y.size:=e;subst e';exact PySem.W.len_bytes (by omega) ⟨.int _,H,I.tok _,⟨_,rfl⟩,q⟩
 | ref p =>
  cases rx;have e':(∃ xs,SqL X.K H p xs/\n=xs.length)\/∃ xs,SqT X.K H p xs/\n=xs.length:=e;rcases e' with ⟨xs,hx,e'⟩ | ⟨xs,hx,e'⟩
  ·subst e';obtain ⟨its,r',pl,hz⟩:=I.list hx;have hlen:=r'.length;exact Calls.call_len_list pl.isList (by simp only [Hr];omega) ⟨.int xs.length,H,I.tok _,⟨_,by simp only [Hr];rw [hlen]⟩,q⟩
  ·subst e';obtain ⟨its,r',pl,hz⟩:=I.tuple hx;have hlen:=r'.length;exact len_tuple pl (by simp only [Hr];omega) ⟨.int xs.length,H,I.tok _,⟨_,by simp only [Hr];rw [hlen]⟩,q⟩
 | _=>exact (show False from e).elim
end
end L2
namespace L2
open PySem PySem.Spec PyProof.Rows
structure c6 (k:Nat) (A:Around):Prop where
 hd:A.handled=none
 dp:A.depth+3*k+5 < recursionLimit
 un:A.units+16*k+200 < cLine
 gd:A.guards=some []
theorem c6.mono {j k:Nat} {A:Around} (r:c6 k A) (h:j<=k):c6 j A:=⟨r.hd,by have:=r.dp;omega,by have:=r.un;omega,r.gd⟩
theorem c6.deeper {k:Nat} {A:Around} (r:c6 (k+1) A) (env:Env):c6 k (A.deeper env) :=
 ⟨r.hd,by have:=r.dp;show A.depth+1+3*k+5 < _;omega,by have:=r.un;show A.units+3+16*k+200 < _;omega,r.gd⟩
theorem c6.in1 {k:Nat} {A:Around} (r:c6 (k+1) A):c6 k A.in1 :=
 ⟨r.hd,by have:=r.dp;show A.depth+3*k+5 < _;omega,by have:=r.un;show A.units+1+16*k+200 < _;omega,r.gd⟩
theorem c6.depth {k:Nat} {A:Around} (r:c6 k A):A.depth < recursionLimit:=by have:=r.dp;omega
theorem c6.units {k:Nat} {A:Around} (r:c6 k A):A.units+64 < cLine:=by have:=r.un;omega
theorem c6.pI {k:Nat} {A:Around} (r:c6 k A):A.units < cLine:=by have:=r.un;omega
def ml:TA:=fun _ H Q=>Q [] H
def cT (ta:TE) (tr:TA):TA:=fun σ H Q=>ta σ H fun x H1=>tr σ H1 fun xs H2=>Q (x :: xs) H2
section
variable {X:Cx} {e:Expr} {es:List Expr} {te:TE} {t:TA} {pos:Pos}
theorem zt:PA X [] ml:=fun _ _ _ _ H Q I h=>Calls.spliced_nil ⟨[],H,I,.nil,h⟩
theorem xu (ha:PE X e te) (hr:PA X es t) (hs:starEach (e :: es) X.env=(false,eval e X.env) :: starEach es X.env:=by rfl):PA X (e :: es) (cT te t):=by
 intro pos pins s σ H Q I h;rw [hs];show wpAny _ _ (spliced ((false,eval e X.env) :: backTo pos (starEach es X.env))) _ _ s;refine Calls.spliced_cons (thn (ha pins s σ H _ I h) fun u s1 ⟨x,H1,I1,r1,q1⟩=>?_);exact thn (hr pos pins s1 σ H1 _ I1 q1) fun us s2 ⟨xs,H2,I2,r2,q2⟩=>⟨x :: xs,H2,I2,.cons r1 r2,q2⟩
def BU (t:TA):TE:=fun σ H Q=>t σ H fun xs H1=>xs.length<=sizeLine/\∀ p,H1 p=none->Q (.ref p) (upd H1 p (.tup xs))
def E3 (t:TA):TE:=fun σ H Q=>t σ H fun xs H1=>xs.length<=sizeLine/\∀ p,H1 p=none->Q (.ref p) (upd H1 p (.lst xs))
theorem yS {x1} (h:PA X es t):PE X (.Tuple es x1 pos) (BU t):=by
 intro pins s σ H Q I hq;refine wpAny_Tuple_spliced (thn (h pos pins s σ H _ I hq) fun us s1 ⟨xs,H1,I1,r,z,q⟩=>⟨by rw [<- r.length];exact z,?_⟩);have hf:H1 s1.heap.objs.size=none:=I1.hok.fresh (Hl _);refine ⟨.ref s1.heap.objs.size,upd H1 s1.heap.objs.size (.tup xs),I1.laid (t':=s1.toks) (fun b u e=>Hg _ e) (Hl _) ?_,rfl,q _ hf⟩;exact ⟨z,us,r,⟨_,HC _ rfl,rfl,_,rfl⟩⟩
theorem yC (h:PA X es t):PE X (.List es pos) (E3 t):=by
 intro pins s σ H Q I hq;refine wpAny_List_spliced (thn (h pos pins s σ H _ I hq) fun us s1 ⟨xs,H1,I1,r,z,q⟩=>⟨by rw [<- r.length];exact z,?_⟩);have hf:H1 s1.heap.objs.size=none:=I1.hok.fresh (Hl _);refine ⟨.ref s1.heap.objs.size,upd H1 s1.heap.objs.size (.lst xs),I1.laid (t':=s1.toks) (fun b u e=>Hg _ e) (Hl _) ?_,rfl,q _ hf⟩;exact ⟨z,us,0,r,HC _ rfl⟩
end
abbrev Sp:=List V->Hp->VK->XK->Prop
abbrev CXT:=List Env->Hp->Shared->XK->Value->Shared->Prop
structure BP (P:Program) (w:World) (K:Fg) (mg:Str->Option Value) (base:Heap) (A:Around) (outer:List Env) (s:Shared) (H:Hp):Prop where
 frames:A.frames=some outer
 mod:Mod K mg base
 bs:∀ b o,base.get? b=some o->s.heap.get? b=some o/\H b=none
 bsz:base.objs.size<=s.heap.objs.size
 oP:s.heap.FunFrames base outer
 frf:∀ b∈frs outer,H b=none
 hok:HOk P w H s.heap
 bare:AllBare s.gens
def CE (outer:List Env) (P:Program) (w:World) (H:Hp) (s:Shared) (Q:VK) (u:Value) (s':Shared):Prop :=
 ∃ v H',s'.os=s.os/\AllBare s'.gens/\Un (frs outer) [] H H' s.heap s'.heap/\HOk P w H' s'.heap/\RelV v u/\Q v H'
def CR (CX:CXT) (outer:List Env) (P:Program) (w:World) (H:Hp) (s:Shared) (Q:VK) (E:XK) (r:Result) (s':Shared):Prop :=
 match r with
 | .ok (.ret u)=>CE outer P w H s Q u s'
 | .ok _=>False
 | .error e=>CX outer H s E e s'
structure aY (P:Program) (w:World) (K:Fg) (mg:Str->Option Value) (base:Heap) (CX:CXT) (k:Nat) (f:Addr) (fd:FuncData) (ps:List Str) (sp:Sp):Prop where
 len:∀ vs H Q E,sp vs H Q E->vs.length=ps.length
 run:∀ (A:Around) (outer:List Env) (s:Shared) (H:Hp) (args:Args) (us:List Value) (vs:List V) (Q:VK) (E:XK),c6 k A->BP P w K mg base A outer s H->BindsTo s fd args (ps.zip us)->Vals vs us->sp vs H Q E ->
  codeAny (model P w) A (.call (.ref f) args) (CR CX outer P w H s Q E) s
section
variable {X:Cx} {pins:List (Addr×Obj)} {σ:St} {H:Hp} {s s':Shared}
theorem Inv.DA (I:Inv X pins σ H s):BP X.prog X.w X.K X.mg X.base X.A X.stack s H :=
 ⟨I.ok.frames,I.ok.mod,I.bs,HJ I.ok.bsz I.sz,I.stack,I.sg,I.hok,I.bare⟩
theorem Inv.after {Q:VK} {u:Value} (I:Inv X pins σ H s) (h:CE X.stack X.prog X.w H s Q u s'):EP X pins σ Q u s':=by
 obtain ⟨v,H',os,bare,un,hok,r,q⟩:=h;obtain ⟨hh,g,d,t,os'⟩:=s';obtain rfl:os'=s.os:=os;exact ⟨v,H',I.call (h':=hh) (g':=g) (d':=d) (t':=t) (ch:=[]) un hok bare (fun b z=>absurd z (by simp)),r,q⟩
end
def qp (sp:Sp) (dvs:List V) (E:XK) (t:TA):TE:=fun σ H Q=>t σ H fun vs H1=>sp (vs++dvs) H1 Q E
def Binds (K:Fg) (fd:FuncData) (ps:List Str) (ds:List Value):Prop :=
 ∀ (s:Shared) (us:List Value),K.In s.heap->(us++ds).length=ps.length->BindsTo s fd ⟨us,[]⟩ (ps.zip (us++ds))
theorem Binds.all {K:Fg} {fd:FuncData} {ps:List Str} (h:∀ us:List Value,us.length=ps.length->bindArgs fd ⟨us,[]⟩=pure (ps.zip us)):Binds K fd ps []:=fun s us _ hl=>by
 rw [JK] at hl ⊢;exact .of_eq (h us hl)
def Passes (CX:CXT) (X:Cx) (E:XK):Prop:=∀ (pins:List (Addr×Obj)) (σ:St) (H:Hp) (s:Shared) (e:Value) (s':Shared),Inv X pins σ H s->CX X.stack H s E e s'->X.xe e s'
section
variable {X:Cx} {CX:CXT} {k:Nat} {f C:Addr} {fd:FuncData} {ps:List Str} {sp:Sp} {dvs:List V} {ds:List Value} {E:XK} {x m:Str} {p pos apos:Pos} {e o:Expr} {es:List Expr} {ta:TE} {t:TA}
theorem vK {pins:List (Addr×Obj)} {σ:St} {H:Hp} {s:Shared} {Q:VK} {us:List Value} {vs:List V} (F:aY X.prog X.w X.K X.mg X.base CX k f fd ps sp) (hr:c6 k X.A) (hb:Binds X.K fd ps ds) (hd:Vals dvs ds) (hx:Passes CX X E)
  (I:Inv X pins σ H s) (r:Vals vs us) (h:sp (vs++dvs) H Q E):wpAny (model X.prog X.w) X.A (call (.ref f) us) (EP X pins σ Q) X.xe s:=by
 have r2:Vals (vs++dvs) (us++ds):=r.append hd;have hl:(us++ds).length=ps.length:=by rw [<- r2.length];exact F.len _ _ _ _ h
 refine wpAny_call (codeAny_mono (F.run X.A X.stack s H ⟨us,[]⟩ (us++ds) (vs++dvs) Q E hr I.DA (hb s us I.kIn hl) r2 h) fun r s' hq=>?_);cases r with
 | error e=>exact hx pins σ H s e s' I hq
 | ok fl =>
  cases fl with
  | ret u=>exact I.after hq
  | next=>exact False.elim hq
  | brk=>exact False.elim hq
  | cont=>exact False.elim hq
theorem wC (F:aY X.prog X.w X.K X.mg X.base CX k f fd ps sp) (hr:c6 k X.A) (hg:Gl X x) (hm:X.mg x=some (.ref f)) (hk:PySem.W.keepIn X.K (.ref f)=true) (hb:Binds X.K fd ps ds) (hd:Vals dvs ds) (hx:Passes CX X E)
  (ha:PA X (e :: es) t) (hdb:(x==("__debug__" : Str))=false:=by decide) (he:starEach (e :: es) X.env=(false,eval e X.env) :: starEach es X.env:=by rfl) (hpl:(backTo pos (starEach es X.env)).any (·.1)=false:=by rfl) :
  PE X (.Call (.Name x p) (e :: es) [] pos) (qp sp dvs E t):=by
 intro pins s σ H Q I h;refine Ji (qN I hg hm ?_ hdb);refine PySem.W.callWith_K (h₀:=X.base) I.ok.mod.kin hk (thn (ha pos pins s σ H _ I h) fun us s1 ⟨vs,H1,I1,r,q⟩=>⟨I1.kIn,?_⟩) he hpl;exact vK F hr hb hd hx I1 r q
end
def PK (X:Cx) (kws:List Keyword) (t:TA):Prop :=
 ∀ (pos:Pos) (pins:List (Addr×Obj)) (s:Shared) (σ:St) (H:Hp) (Q:List V->Hp->Prop),Inv X pins σ H s->t σ H Q->wpAny (model X.prog X.w) X.A (evalAll ((backToKw pos (keywordEach kws X.env)).map (·.2))) (AP X pins σ Q) X.xe s
section
variable {X:Cx} {CX:CXT} {k:Nat} {f C:Addr} {fd:FuncData} {ps ks:List Str} {sp:Sp} {E:XK} {x m:Str} {p pos apos kpos:Pos} {e o:Expr} {es:List Expr} {kws:List Keyword} {te ta:TE} {t tk:TA} {nm:Option Str}
theorem A7:PK X [] ml:=fun _ _ _ _ H Q I h=>wpAny_evalAll_nil ⟨[],H,I,.nil,h⟩
theorem vV (ha:PE X e te) (hr:PK X kws t):PK X (⟨nm,e,kpos⟩ :: kws) (cT te t):=by
 intro pos pins s σ H Q I h;show wpAny _ _ (evalAll ((do let v<-eval e X.env;standAt pos;pure v) :: (backToKw pos (keywordEach kws X.env)).map (·.2))) _ _ s;refine wpAny_evalAll_cons (Ha (thn (ha pins s σ H _ I h) fun u s1 ⟨x,H1,I1,r1,q1⟩=>Ha (wpAny_standAt (He ?_))));exact thn (hr pos pins s1 σ H1 _ I1 q1) fun us s2 ⟨xs,H2,I2,r2,q2⟩=>⟨x :: xs,H2,I2,.cons r1 r2,q2⟩
variable {g:List Value->List Value->List Value} {gV:List V->List V->List V}
end
structure ae (N P:List Str) (sc:Scope):Prop where
 kind:sc.kind=.function
 co:sc.isCoroutine=false
 gen:sc.isGenerator=false
 nd:N.Nodup
 pre:N.take P.length=P
 par:∀ x∈P,sc.names.lookup x=some .local\/sc.names.lookup x=some .cell
 ze:∀ y∈sc.names,y.2≠.free
theorem jX {kindOf:Str->Option NameKind} {x:Str}:∀ {binds:List (Str×Value)} {m:Str->Option Value},(∀ v,(x,v) ∉ binds)->bindL kindOf binds m x=m x
 | [],_,_=>rfl
 | (n,v) :: r,m,h=>by
  unfold bindL;rw [jX fun w hw=>h w (Hm _ hw)];split
  ·have:x≠n:=by rintro rfl;exact h v Hu
   simp [this]
  ·rfl
theorem kb {kindOf:Str->Option NameKind} {x:Str}:∀ {binds:List (Str×Value)} {m:Str->Option Value},(∀ v,(x,v) ∉ binds)->bindC kindOf binds m x=m x
 | [],_,_=>rfl
 | (n,v) :: r,m,h=>by
  unfold bindC;rw [kb fun w hw=>h w (Hm _ hw)];split
  ·rfl
  ·have:x≠n:=by rintro rfl;exact h v Hu
   simp [this]
theorem kI {kindOf:Str->Option NameKind} {x:Str} {v:Value}:∀ {P:List Str} {vs:List Value} {i:Nat} {m:Str->Option Value},P.Nodup->P[i]?=some x->vs[i]?=some v->kindOf x=some .local ->
  bindL kindOf (P.zip vs) m x=some v
 | [],_,_,_,_,h,_,_=>by simp at h
 | _ :: _,[],_,_,_,_,h,_=>by simp at h
 | p :: P,w :: vs,0,m,nd,h1,h2,hk=>by
  simp at h1 h2;subst h1;subst h2;show bindL kindOf ((p,w) :: P.zip vs) m p=_;unfold bindL;rw [jX fun v hv=>(HZ.mp nd).1 (List.of_mem_zip hv).1,Ht hk];simp
 | p :: P,w :: vs,i+1,m,nd,h1,h2,hk=>by
  show bindL kindOf ((p,w) :: P.zip vs) m x=_;unfold bindL;exact kI (i:=i) (HZ.mp nd).2 (by simpa using h1) (by simpa using h2) hk
theorem lz {kindOf:Str->Option NameKind} {x:Str} {v:Value}:∀ {P:List Str} {vs:List Value} {i:Nat} {m:Str->Option Value},P.Nodup->P[i]?=some x->vs[i]?=some v->kindOf x≠some .local ->
  bindC kindOf (P.zip vs) m x=some v
 | [],_,_,_,_,h,_,_=>by simp at h
 | _ :: _,[],_,_,_,_,h,_=>by simp at h
 | p :: P,w :: vs,0,m,nd,h1,h2,hk=>by
  simp at h1 h2;subst h1;subst h2;show bindC kindOf ((p,w) :: P.zip vs) m p=_;unfold bindC;rw [kb fun v hv=>(HZ.mp nd).1 (List.of_mem_zip hv).1,Hv hk];simp
 | p :: P,w :: vs,i+1,m,nd,h1,h2,hk=>by
  show bindC kindOf ((p,w) :: P.zip vs) m x=_;unfold bindC;exact lz (i:=i) (HZ.mp nd).2 (by simpa using h1) (by simpa using h2) hk
noncomputable def start (N:List Str) (vs:List V):St:=vs.map some++List.replicate (N.length - vs.length) none
noncomputable def uL (CX:CXT) (P:Program) (w:World) (K:Fg) (mg:Str->Option Value) (base:Heap) (N:List Str) (qual:Str) (scope:Scope) (f:Addr) (cd:Value) (A:Around) (outer:List Env) (s:Shared) (H:Hp) (E:XK):Cx where
 prog:=P
 w:=w
 K:=K
 mg:=mg
 base:=base
 A:=A.deeper (envOfC qual scope s.heap.objs.size f cd)
 N:=N
 s₀:=s
 H₀:=H
 env:=envOfC qual scope s.heap.objs.size f cd
 outer:=outer
 stack:=envOfC qual scope s.heap.objs.size f cd :: outer
 ex:=[]
 calm:=true
 fn:=fun _=>true
 pn:=[]
 xe:=fun e s'=>wpAny (model P w) (A.deeper (envOfC qual scope s.heap.objs.size f cd)) (leaving (envOfC qual scope s.heap.objs.size f cd) e) (fun _ s''=>CX outer H s E e s'') (fun e' s''=>CX outer H s E e' s'') s'
theorem nR {sc:Scope} {n:Nat} {x:Str} (h:sc.names.lookup x=some .cell):∃ c,(cellsFrom n sc.names []).lookup x=some c:=by
 have q:=PySem.W.cellsFrom_some sc.names n [] (.inl h);exact Option.isSome_iff_exists.mp q
theorem sd {CX:CXT} {P:Program} {w:World} {K:Fg} {mg:Str->Option Value} {base:Heap} {N ps:List Str} {qual:Str} {scope:Scope} {f:Addr} {cd:Value} {A:Around} {outer:List Env} {s s1:Shared} {H:Hp} {E:XK} {us:List Value} {vs:List V}
  (S:ae N ps scope) (hd:A.handled=none) (e0:BP P w K mg base A outer s H) (hl:vs.length=ps.length) (r:Vals vs us)
  (x:InCallC s s.heap.objs.size (bindL (envOfC qual scope s.heap.objs.size f cd).kindOf (ps.zip us) fun _=>none) (cellsFrom (s.heap.objs.size+1) scope.names []) (bindC (envOfC qual scope s.heap.objs.size f cd).kindOf (ps.zip us) fun _=>none) s1) :
  Inv (uL CX P w K mg base N qual scope f cd A outer s H E) [] (start N vs) H s1:=by
 have hpl:ps.length<=N.length:=by have:=congrArg List.length S.pre;rw [IJ] at this;omega
 obtain ⟨h1,tk,rfl,hk⟩:=x.done;have noA:∀ b:Addr,b ∉ (uL CX P w K mg base N qual scope f cd A outer s H E).ex:=fun b z=>absurd (show b∈([]:List Addr) from z) (by simp)
 refine ⟨⟨e0.mod,S.kind,rfl,rfl,Hl _,fun y z c h1 h2=>?_,fun y hy=>?_,fun y c _ h=>?_,fun _=>hd,Around.frames_deeper e0.frames,.inr ⟨rfl,rfl⟩,fun b z=>absurd z (noA b),e0.bs,e0.bsz,fun b _ _=>noA b,fun b z=>absurd z (noA b),e0.oP,e0.frf⟩,
  rfl,e0.bare,Un.kept hk,⟨_,x.toInCall.ns,fun i y v h1 h2 h3=>?_⟩,fun y c h=>⟨_,x.cell y c h⟩,e0.hok.fresh (Hl _),fun y c h=>?_,fun p hp=>absurd (show p∈([]:List (Addr×Obj)) from hp) (by simp),e0.hok.kept hk,?_⟩
 ·exact name_of_addr x.apart (IL h1) (IL h2)
 ·have hy:scope.names.lookup y=some .cell\/scope.names.lookup y=some .free:=hy;rcases hy with hy | hy
  ·exact nR hy
  ·exact absurd rfl (S.ze _ (IL hy))
 ·exact Jy (x.above y c (IL h))
 ·have hi:i < vs.length:=by
   unfold start at h2;by_cases hi:i < vs.length
   ·exact hi
   ·rw [HA (by simpa using hi)] at h2;rw [List.getElem?_replicate] at h2;split at h2 <;> cases h2
  have ha:vs[i]?=some v:=by
   unfold start at h2;rw [H0 (by simpa using hi),Hi] at h2;cases e:vs[i]? with
   | none=>rw [e] at h2;cases h2
   | some a=>rw [e] at h2;cases h2;rfl
  obtain ⟨u,hu,rv⟩:=r.get ha;have hp:ps[i]?=some y:=by
   rw [<- S.pre,List.getElem?_take_of_lt (by omega)];exact h1
  have ndP:ps.Nodup:=by rw [<- S.pre];exact S.nd.sublist (List.take_sublist _ _)
  refine ⟨u,rv,?_⟩;rcases S.par y (HB hp) with k | k
  ·exact .inl ⟨k,kI ndP hp hu k⟩
  ·obtain ⟨c,e⟩:=nR (n:=s.heap.objs.size+1) k;refine .inr ⟨.inl k,c,e,?_⟩;have q:=x.cell y c e;rw [lz ndP hp hu (by show scope.names.lookup y≠_;rw [k];decide)] at q;exact q
 ·exact e0.hok.fresh (Jy (x.above y c (IL h)))
 ·unfold start;show _=N.length;rw [Hq,Hb,JM];omega
theorem Cm {CX:CXT} {P:Program} {w:World} {K:Fg} {mg:Str->Option Value} {base:Heap} {k:Nat} {f:Addr} {name qual:Str} {params:Arguments} {body:List Stmt} {scope:Scope} {dV kV doc pm cdv ct oc:Value} {an od:Option Addr}
  {osl:Array (Option Value)} {N ps:List Str} {sp:Sp} (lk:K.lookup f=some ⟨oc,od,.func (PySem.W.fnOf name qual params body scope dV kV doc pm an cdv ct),osl⟩) (hcd:PySem.W.codeIn K cdv qual=true) (S:ae N ps scope)
  (len:∀ vs H Q E,sp vs H Q E->vs.length=ps.length)
  (hbody:∀ (A:Around) (outer:List Env) (s:Shared) (H:Hp) (vs:List V) (Q:VK) (E:XK),c6 k (A.deeper (envOfC qual scope s.heap.objs.size f cdv))->sp vs H Q E ->
   ∃ t,PSs (uL CX P w K mg base N qual scope f cdv A outer s H E) body t/\t { nx:=fun _ H'=>Q .non H',rt:=Q } (start N vs) H) :
  aY P w K mg base CX (k+1) f (PySem.W.fnOf name qual params body scope dV kV doc pm an cdv ct) ps sp:=by
 refine ⟨len,fun A outer s H args us vs Q E hr e0 hb r hsp=>?_⟩;have hl:=len _ _ _ _ hsp;have KX:K.In s.heap:=e0.mod.kin.keeps fun b o e=>(e0.bs b o e).1;have lim:s.heap.NoLimit:=e0.mod.nolimit.keeps fun b o e=>(e0.bs b o e).1;have hkind:∀ y∈ps.zip us,scope.names.lookup y.1=some .local\/(scope.names.lookup y.1=some .cell/\((cellsFrom (s.heap.objs.size+1) scope.names []).lookup y.1).isSome=true):=fun ⟨n,v⟩ hy=>by
  rcases S.par n (List.of_mem_zip hy).1 with q | q
  ·exact .inl q
  ·exact .inr ⟨q,PySem.W.cellsFrom_some _ _ _ (.inl q)⟩
 refine codeAny_call_function hr.depth (KX _ _ lk) rfl S.co S.gen rfl (PySem.W.codeRec_of KX hcd) (hb _ _ _ _ ?_);refine wpAny_newFunctionEnv_cells S.kind hkind fun env he s1 x=>?_;subst he;refine ⟨lim.keeps x.toInCall.keep,codeAny_func ?_⟩;obtain ⟨t,ht,hq⟩:=hbody A outer s H vs Q E (hr.deeper _) hsp;have I:Inv (uL CX P w K mg base N qual scope f cdv A outer s H E) [] (start N vs) H s1:=sd S hr.hd e0 hl r x;refine HP (ht [] s1 (start N vs) H _ I hq) (fun fl s' hs=>?_) fun e s' hs=>hs;have fin:∀ {σ':St} {H':Hp} {v:V} {u:Value},Inv (uL CX P w K mg base N qual scope f cdv A outer s H E) [] σ' H' s'->RelV v u->Q v H'->CE outer P w H s Q u s' :=
  fun {σ' H' v u} J rv q=>⟨v,H',J.os,J.bare,J.base,J.hok,rv,q⟩
 cases fl with
 | ret u =>
  obtain ⟨v,σ',H',J,rv,q⟩:=hs;exact fin J rv q
 | next =>
  obtain ⟨σ',H',J,q⟩:=hs;exact fin (v:=V.non) (u:=Value.none) J rfl q
 | brk =>
  obtain ⟨_,_,_,q⟩:=hs;exact False.elim q
 | cont =>
  obtain ⟨_,_,_,q⟩:=hs;exact False.elim q
end L2
namespace L2
open PySem PySem.Spec PyProof.Rows
section
variable {X:Cx} {x:Str} {p pos:Pos} {e:Expr} {es:List Expr} {t:TA} {id T:String} {r:List V->Hp->VK->Prop}
def tCB (r:List V->Hp->VK->Prop) (t:TA):TE:=fun σ H Q=>t σ H fun vs H1=>r vs H1 Q
theorem uH (hc:aS X (.builtin id) r) (hg:Gl X x) (hm:X.mg x=none) (hv:bootBuiltins x=some (.builtin id)) (ha:PA X (e :: es) t) (hn:x ≠ "__name__" := by decide) (hdb:(x==("__debug__" : Str))=false:=by decide)
  (he:starEach (e :: es) X.env=(false,eval e X.env) :: starEach es X.env:=by rfl) (hpl:(backTo pos (starEach es X.env)).any (·.1)=false:=by rfl):PE X (.Call (.Name x p) (e :: es) [] pos) (tCB r t):=by
 intro pins s σ H Q I h;refine Ji (i7 I hg hm hv ?_ hn hdb);exact PyProof.Rows.callWith_builtin1 (thn (ha pos pins s σ H _ I h) fun us s1 ⟨vs,H1,I1,r1,q1⟩=>hc pins s1 σ H1 vs us Q I1 r1 q1) he hpl
theorem pX (hc:aS X (.type T) r) (hg:Gl X x) (hm:X.mg x=none) (hv:bootBuiltins x=some (.type T)) (ha:PA X (e :: es) t) (hn:x ≠ "__name__" := by decide) (hdb:(x==("__debug__" : Str))=false:=by decide)
  (he:starEach (e :: es) X.env=(false,eval e X.env) :: starEach es X.env:=by rfl) (hpl:(backTo pos (starEach es X.env)).any (·.1)=false:=by rfl):PE X (.Call (.Name x p) (e :: es) [] pos) (tCB r t):=by
 intro pins s σ H Q I h;refine Ji (i7 I hg hm hv ?_ hn hdb);exact PyProof.Rows.callWith_type1 (thn (ha pos pins s σ H _ I h) fun us s1 ⟨vs,H1,I1,r1,q1⟩=>hc pins s1 σ H1 vs us Q I1 r1 q1) he hpl
end
end L2
namespace HT
open PySem PyProof.Rows
section
variable {prog:Program} {w:World} {A:Around} {E:Value->Shared->Prop} {s:Shared}
theorem wA {t b:Addr} {vs ws:List Value} {Q:Value->Shared->Prop} (ht:IsTup s.heap t vs.toArray) (hb:IsTup s.heap b ws.toArray) (hv:vs≠[])
  (h1:ws=[]->Q (.ref t) s) (h2:ws≠[]->Q (.ref s.heap.objs.size) { s with heap:=s.heap.push { cls:=.type "tuple", data:=.seq (vs++ws).toArray } })
  (hsz:vs.length+ws.length<=sizeLine):wpAny (model prog w) A (binaryOp .Add (.ref t) (.ref b)) Q E s:=by
 obtain ⟨⟨cls,dd,data,sl⟩,ho,hc,n,hd⟩:=id ht;obtain ⟨⟨cls2,dd2,data2,sl2⟩,ho2,hc2,n2,hd2⟩:=id hb;simp only at hc hd hc2 hd2;subst hc hd hc2 hd2;have e:vs.toArray++ws.toArray=(vs++ws).toArray:=by simp
 by_cases hw:ws=[]
 ·exact concat_meets ⟨_,ho,rfl⟩ ⟨_,ho2,rfl⟩ noFill_tuple_add seq_tuple_add PySem.F.slot_tuple_add PySem.F.entry_tuple_add (PySem.F.args_tuple_add_2 _ _)
   (tuple_addW1 t b vs.toArray ws.toArray n n2 dd dd2 sl sl2 (by simpa using hv) (by simp [hw])) ⟨ho,ho2,h1 hw⟩
 ·refine concat_meets ⟨_,ho,rfl⟩ ⟨_,ho2,rfl⟩ noFill_tuple_add seq_tuple_add PySem.F.slot_tuple_add PySem.F.entry_tuple_add (PySem.F.args_tuple_add_2 _ _)
   (tuple_addW2 t b vs.toArray ws.toArray n n2 dd dd2 sl sl2 (by simpa using hv) (by simpa using hw) (by rw [Hr,Hr];exact hsz)) ⟨ho,ho2,?_⟩
  rw [e];exact h2 hw
noncomputable def sIx (n d:Nat):Option Int->Nat
 | none=>d
 | some v=>if v < 0 then (v+(n:Int)).toNat else min v.toNat n
theorem mT (n d:Nat) (hd:d<=n) (o:Option Int):sIx n d o<=n:=by
 cases o with
 | none=>exact hd
 | some v =>
  show (if v < 0 then (v+(n:Int)).toNat else min v.toNat n)<=n;by_cases hv:v < 0
  ·rw [Ht hv];omega
  ·rw [Hv hv];exact Nat.min_le_right _ _
theorem qZ (v:Int) (n d:Nat):(if v < 0 then max (v+(n:Int)) 0 else min v (n:Int))=((sIx n d (some v):Nat):Int):=by
 show (if v < 0 then max (v+(n:Int)) 0 else min v (n:Int))=(((if v < 0 then (v+(n:Int)).toNat else min v.toNat n):Nat):Int);by_cases hv:v < 0
 ·simp only [Ht hv];omega
 ·simp only [Hv hv];omega
theorem oI (lo hi:Option Int) (n:Nat):Builtin.Slice.sliceAdjust lo hi 1 (n:Int)=(((sIx n 0 lo:Nat):Int),((sIx n n hi:Nat):Int)):=by
 have h1:¬((1:Int) < 0):=by omega
 unfold Builtin.Slice.sliceAdjust;simp only [h1,IG];refine Prod.ext ?_ ?_
 ·cases lo with
  | none=>rfl
  | some v=>exact qZ v n 0
 ·cases hi with
  | none=>rfl
  | some v=>exact qZ v n n
theorem oz (i j:Nat):Builtin.Slice.slicePlaces (i:Int) (j:Int) 1=j - i:=by
 unfold Builtin.Slice.slicePlaces;have h1:(1:Int) > 0:=by omega
 simp only [h1,Jg,Int.ediv_one];split <;> omega
theorem iY {v:Value} {o:Option Int} {Q:Option Int->Shared->Prop} (p:IsPart v o) (h:Q o s):wpAny (model prog w) A (Builtin.Slice.slicePartIndex v) Q E s:=by
 cases p with
 | none=>exact slicePart_none h
 | int i t=>exact slicePart_int h
theorem fE {sl:Addr} {vl vu:Value} {lo hi:Option Int} {n:Nat} {Q:Int×Int×Nat->Shared->Prop} (hs:s.heap.IsSliceOf sl vl vu .none) (pl:IsPart vl lo) (pu:IsPart vu hi)
  (h:Q (((sIx n 0 lo:Nat):Int),1,sIx n n hi - sIx n 0 lo) s):wpAny (model prog w) A (Builtin.Slice.sliceApplied (.ref sl) (pure (n:Int))) Q E s:=by
 obtain ⟨os,hos,hcs,hds⟩:=id hs;unfold Builtin.Slice.sliceApplied Builtin.Slice.sliceFields;refine Ha (Ha (wpAny_field hos hds (x:=vl) rfl (Ha (wpAny_field hos hds (x:=vu) rfl (Ha (wpAny_field hos hds (x:=.none) rfl (He ?_)))))));refine Ha (slicePart_none ?_);show wpAny _ _ (if ((1:Int)==0)=true then _ else _) _ _ s;rw [Hv (by decide)];refine Ha (iY pl (Ha (iY pu (Ha (He ?_)))));show wpAny _ _ (match Builtin.Slice.sliceAdjust lo hi 1 (n:Int) with | (lo,hi)=>pure (lo,(1:Int),Builtin.Slice.slicePlaces lo hi 1)) _ _ s;rw [oI lo hi n];show wpAny _ _ (pure (((sIx n 0 lo:Nat):Int),(1:Int),Builtin.Slice.slicePlaces ((sIx n 0 lo:Nat):Int) ((sIx n n hi:Nat):Int) 1)) _ _ s;rw [oz];exact He h
theorem tO (xs:Array Value) (i k:Nat):((List.range k).filterMap fun (m:Nat)=>xs[((i:Int)+(m:Int)*1).toNat]?).toArray=((xs.toList.drop i).take k).toArray:=by
 have e:(fun (m:Nat)=>xs[((i:Int)+(m:Int)*1).toNat]?)=fun m=>xs[i+m]?:=by
  funext m;have:((i:Int)+(m:Int)*1).toNat=i+m:=by omega
  rw [this]
 rw [e];have:=pick_run xs i k;rw [List.filterMap_map] at this;have e2:((fun x=>xs[x]?)∘fun x=>i+x)=fun m=>xs[i+m]?:=rfl;rw [e2] at this;rw [this]
theorem eQ {t sl:Addr} {items:Array Value} {vl vu:Value} {lo hi:Option Int} {Q:Value->Shared->Prop} (ht:IsTup s.heap t items) (hs:s.heap.IsSliceOf sl vl vu .none) (pl:IsPart vl lo) (pu:IsPart vu hi)
  (hw:¬(sIx items.size 0 lo=0/\sIx items.size items.size hi=items.size))
  (h:Q (.ref s.heap.objs.size) { s with heap:=s.heap.push { cls:=.type "tuple", data:=.seq ((items.toList.drop (sIx items.size 0 lo)).take (sIx items.size items.size hi - sIx items.size 0 lo)).toArray } })
  (hsz:items.size<=sizeLine):wpAny (model prog w) A (getItem (.ref t) (.ref sl)) Q E s:=by
 have htake:sizeOk (.seq ((items.toList.drop (sIx items.size 0 lo)).take (sIx items.size items.size hi - sIx items.size 0 lo)).toArray):=by
  show ((items.toList.drop (sIx items.size 0 lo)).take (sIx items.size items.size hi - sIx items.size 0 lo)).toArray.size<=sizeLine;rw [Hr,IJ,Jw,HL];omega
 have hj:sIx items.size items.size hi<=items.size:=mT _ _ (Hl _) hi;obtain ⟨os,hos,hcs,hds⟩:=id hs;have hTs:s.TypeIs (.ref sl) "slice" := ⟨os,hos,hcs⟩;unfold getItem;try with_reducible refine HR ?_
 first | refine Ha (He ?_) | skip
 refine Ha (wpAny_sequenceKey ht.typeIs (by decide) ?_)
 refine Ha (IX (name:=Str.ofString "__getitem__") ht.typeIs PyProof.Rows.slot_tuple_getitem
  (Ib PyProof.Rows.slot_tuple_getitem ht.typeIs entry_tuple_getitem ?_ (args_tuple_getitem _ _)))
 show wpAny _ _ (Builtin.Tuple.tupleItemsOf (.ref t)>>=_) _ _ s;refine Ha (tupleItemsOf_ ht ?_);refine Ha (wpAny_typeOf hTs ?_);rw [Ht (by decide)];refine Ha (fE hs pl pu ?_);have hno:¬((((sIx items.size 0 lo:Nat):Int)==0&&(1:Int)==1&&(sIx items.size items.size hi - sIx items.size 0 lo)==items.size)=true):=by
  intro q;rw [HN,HN] at q;have q1:((sIx items.size 0 lo:Nat):Int)=0:=eq_of_beq q.1.1;have q2:sIx items.size items.size hi - sIx items.size 0 lo=items.size:=eq_of_beq q.2;exact hw ⟨by omega,by omega⟩
 show wpAny _ _ (if (((sIx items.size 0 lo:Nat):Int)==0&&(1:Int)==1&&(sIx items.size items.size hi - sIx items.size 0 lo)==items.size)=true then _ else _) _ _ s;rw [Hv hno,tO];first
  | exact Ha (m:=Builtin.Tuple.tupleExact _) (Ip (He ⟨_,rfl,He h⟩) htake)
  | exact Ha (m:=Builtin.Tuple.tupleExact _) (Ip (Ha (He (He ⟨_,rfl,He h⟩))) htake)
  | exact Ha (Ha (m:=Builtin.Tuple.tupleExact _) (Ip (He (He ⟨_,rfl,He h⟩)) htake))
  | exact Ha (Ha (m:=Builtin.Tuple.tupleExact _) (Ip (He ⟨_,rfl,He h⟩) htake))
end
end HT
namespace L2
open PySem PySem.Spec PyProof.Rows
abbrev TO:=St->Hp->(Option Int->Hp->Prop)->Prop
def PO (X:Cx) (e:Option Expr) (t:TO):Prop :=
 ∀ (pins:List (Addr×Obj)) (s:Shared) (σ:St) (H:Hp) (Q:Option Int->Hp->Prop),Inv X pins σ H s->t σ H Q ->
  wpAny (model X.prog X.w) X.A (evalPart e X.env) (fun u s'=>∃ o H',Inv X pins σ H' s'/\IsPart u o/\Q o H') X.xe s
def qx:TO:=fun _ H Q=>Q none H
def zr (t:TE):TO:=fun σ H Q=>t σ H fun x H1=>∃ i,x=.int i/\Q (some i) H1
section
variable {X:Cx} {e:Expr} {te:TE} {lo hi:Option Expr} {tl th:TO} {pos p2:Pos}
theorem wX:PO X none qx:=by
 intro pins s σ H Q I h;rw [evalPart_none];exact He ⟨none,H,I,.none,h⟩
theorem v5 (h:PE X e te):PO X (some e) (zr te):=by
 intro pins s σ H Q I hw;rw [evalPart_some];refine thn (h pins s σ H _ I hw) fun u s1 ⟨x,H1,I1,r1,q1⟩=>?_;obtain ⟨i,rfl,q⟩:=q1;obtain ⟨t,rfl⟩:=r1;exact ⟨some i,H1,I1,.int i t,q⟩
def SlR (X:Cx) (r:V->Option Int->Option Int->Hp->VK->Prop):Prop :=
 ∀ (pins:List (Addr×Obj)) (s:Shared) (σ:St) (H:Hp) (x:V) (v vl vu:Value) (lo hi:Option Int) (sl:Addr) (Q:VK),Inv X pins σ H s->RelV x v->s.heap.IsSliceOf sl vl vu .none->IsPart vl lo->IsPart vu hi->r x lo hi H Q ->
  ∃ T id,typeLookup (.type T) "__getitem__" = pure (some (.builtin id))/\s.TypeIs v T/\wpAny (model X.prog X.w) X.A (getItem v (.ref sl)) (EP X pins σ Q) X.xe s
theorem SlR.or {r r':V->Option Int->Option Int->Hp->VK->Prop} (h:SlR X r) (h':SlR X r'):SlR X (fun x lo hi H Q=>r x lo hi H Q\/r' x lo hi H Q):=by
 intro pins s σ H x v vl vu lo hi sl Q I rx hs pl pu q;rcases q with q | q
 ·exact h pins s σ H x v vl vu lo hi sl Q I rx hs pl pu q
 ·exact h' pins s σ H x v vl vu lo hi sl Q I rx hs pl pu q
def tSl (r:V->Option Int->Option Int->Hp->VK->Prop) (te:TE) (tl th:TO):TE:=fun σ H Q=>te σ H fun x H1=>tl σ H1 fun l H2=>th σ H2 fun u H3=>r x l u H3 Q
theorem tQ {r:V->Option Int->Option Int->Hp->VK->Prop} (hr:SlR X r) (he:PE X e te) (hl:PO X lo tl) (hu:PO X hi th):PE X (.Subscript e (.Slice lo hi none p2) pos) (tSl r te tl th):=by
 intro pins s σ H Q I h;refine Subscript_ (thn (he pins s σ H _ I h) fun v s1 ⟨x,H1,I1,r1,q1⟩=>?_);refine wpAny_Slice (thn (hl pins s1 σ H1 _ I1 q1) fun vl s2 ⟨l,H2,I2,pl,q2⟩=>thn (hu pins s2 σ H2 _ I2 q2) fun vu s3 ⟨u,H3,I3,pu,q3⟩=>?_);rw [evalPart_none];refine He ?_;have I4:Inv X pins σ H3 { s3 with heap:=s3.heap.push { cls:=.type "slice", data:=.fields #[vl,vu,.none] } }:=I3.kept (t':=s3.toks) fun b ob q=>Hg _ q;obtain ⟨T,id,hT,ht,hg⟩:=hr pins { s3 with heap:=s3.heap.push { cls:=.type "slice", data:=.fields #[vl,vu,.none] } } σ H3 x v vl vu l u s3.heap.objs.size Q I4 r1 (Heap.IsSliceOf.new ..) pl pu q3;show wpAny (model X.prog X.w) X.A (subscriptTail e (.Slice lo hi none p2) v (.ref s3.heap.objs.size)) (EP X pins σ Q) X.xe { s3 with heap:=s3.heap.push { cls:=.type "slice", data:=.fields #[vl,vu,.none] } };exact tail_any (ops:=[.ref s3.heap.objs.size,v]) ht hT hg (by with_unfolding_all rfl)
noncomputable def sW (xs:List V) (lo hi:Option Int):List V:=(xs.drop (HT.sIx xs.length 0 lo)).take (HT.sIx xs.length xs.length hi - HT.sIx xs.length 0 lo)
theorem gB (xs:List V) (lo hi:Option Int):(sW xs lo hi).length<=xs.length:=by
 unfold sW;rw [IJ,Jw];omega
def FQ (K:Fg):V->Option Int->Option Int->Hp->VK->Prop:=fun x lo hi H Q=>∃ a xs,x=.ref a/\SqT K H a xs /\
 ¬(HT.sIx xs.length 0 lo=0/\HT.sIx xs.length xs.length hi=xs.length)/\∀ p,H p=none->Q (.ref p) (upd H p (.tup (sW xs lo hi)))
theorem j5:SlR X (FQ X.K):=by
 intro pins s σ H x v vl vu lo hi sl Q I rx hs pl pu h;obtain ⟨a,xs,rfl,hx,hw,q⟩:=h;cases rx;obtain ⟨its,r,ht,hz⟩:=I.tuple hx;have hlen:its.toArray.size=xs.length:=by rw [Hr];exact r.length.symm
 refine ⟨"tuple", _,PyProof.Rows.slot_tuple_getitem.lookup,ht.typeIs,?_⟩;refine HT.eQ ht hs pl pu (by rw [hlen];exact hw) ?_ (by rw [hlen];exact hz);rw [hlen];refine ⟨.ref s.heap.objs.size,_,I.laid (t':=s.toks) (o:=.tup (sW xs lo hi)) (fun b ob q=>Hg _ q) (Hl _) ?_,rfl,q _ (I.hok.fresh (Hl _))⟩;exact ⟨HJ (gB xs lo hi) hz,_,(r.drop (HT.sIx xs.length 0 lo)).take (HT.sIx xs.length xs.length hi - HT.sIx xs.length 0 lo),IsTup.new _ _⟩
def zy (K:Fg):R2:=fun x y H Q=>∃ a b xs ys,x=.ref a/\y=.ref b/\SqT K H a xs/\SqT K H b ys/\xs≠[]/\xs.length+ys.length<=sizeLine /\
 (ys=[]->Q (.ref a) H)/\(ys≠[]->∀ p,H p=none->Q (.ref p) (upd H p (.tup (xs++ys))))
theorem Vals.lY {xs:List V} {us:List Value} (r:Vals xs us):us=[]↔xs=[]:=by
 cases r with
 | nil=>simp
 | cons _ _=>simp
theorem yg:OpR X (binaryOp .Add) (zy X.K):=by
 intro pins s σ H x y v u Q I rx ry h;obtain ⟨a,b,xs,ys,rfl,rfl,ha,hb,hx,hz,q1,q2⟩:=h;cases rx;cases ry;obtain ⟨its,r1,p1,_⟩:=I.tuple ha;obtain ⟨its2,r2,p2,_⟩:=I.tuple hb;refine HT.wA p1 p2 (fun z=>hx (r1.lY.mp z)) (fun z=>⟨.ref a,H,I,rfl,q1 (r2.lY.mp z)⟩) (fun z=>?_) (by rw [<- r1.length,<-r2.length];exact hz);refine ⟨.ref s.heap.objs.size,_,I.laid (t':=s.toks) (o:=.tup (xs++ys)) (fun b ob q=>Hg _ q) (Hl _) ?_,rfl,q2 (fun w=>z (r2.lY.mpr w)) _ (I.hok.fresh (Hl _))⟩;exact ⟨by rw [Hq];exact hz,_,r1.append r2,IsTup.new _ _⟩
end
end L2
namespace L2
open PySem PySem.Spec PyProof.Rows
noncomputable def ixN (n:Nat) (i:Int):Option Nat:=if 0<=i then (if i < n then some i.toNat else none) else if -(n:Int)<=i then some (i+n).toNat else none
noncomputable def atI {α:Type} (xs:List α) (i:Int):Option α:=(ixN xs.length i).bind fun j=>xs[j]?
theorem pq {n:Nat} {i:Int} {j:Nat} (h:ixN n i=some j):seqIndex? i n=some j/\j < n/\-(n:Int)<=i/\i < n:=by
 unfold ixN at h;by_cases h0:0<=i
 ·rw [Ht h0] at h;by_cases h1:i < n
  ·rw [Ht h1] at h;have e:i.toNat=j:=HU h;exact ⟨by rw [seqIndex_of h0 h1,e],by omega,by omega,h1⟩
  ·rw [Hv h1] at h;cases h
 ·rw [Hv h0] at h;by_cases h1:-(n:Int)<=i
  ·rw [Ht h1] at h;have e:(i+n).toNat=j:=HU h;exact ⟨by rw [seqIndex_neg (by omega) h1,e],by omega,h1,by omega⟩
  ·rw [Hv h1] at h;cases h
theorem mP {α:Type} {xs:List α} {i:Int} {v:α} (h:atI xs i=some v):∃ j,seqIndex? i xs.length=some j/\xs[j]?=some v/\j < xs.length/\-(xs.length:Int)<=i/\i < xs.length:=by
 unfold atI at h;cases e:ixN xs.length i with
 | none=>rw [e] at h;cases h
 | some j =>
  rw [e] at h;obtain ⟨h1,h2,h3,h4⟩:=pq e;exact ⟨j,h1,h,h2,h3,h4⟩
theorem gP {α:Type} {xs:List α} {j:Nat} {v:α} (h:xs[j]?=some v):atI xs (j:Int)=some v:=by
 have hj:j < xs.length:=(Hd.mp h).1;have e:ixN xs.length (j:Int)=some j:=by
  unfold ixN;rw [Ht (by omega),Ht (by omega)];simp
 unfold atI;rw [e];exact h
def ma (b:Expr):Prop:=∀ o i,subscripted b false o i=operate [o,i] (getItem o i)
def IxR (X:Cx) (r:R2):Prop :=
 ∀ (value slice:Expr) (pins:List (Addr×Obj)) (s:Shared) (σ:St) (H:Hp) (x y:V) (v u:Value) (Q:VK),Inv X pins σ H s->RelV x v->RelV y u->r x y H Q ->
  subscripted slice false v u=operate [v,u] (getItem v u)->wpAny (model X.prog X.w) X.A (subscriptTail value slice v u) (EP X pins σ Q) X.xe s
def MtR (X:Cx) (id:String) (r:V->List V->Hp->VK->Prop):Prop :=
 ∀ (pins:List (Addr×Obj)) (s:Shared) (σ:St) (H:Hp) (x:V) (xs:List V) (v:Value) (us:List Value) (Q:VK),Inv X pins σ H s->RelV x v->Vals xs us->r x xs H Q ->
  wpAny (model X.prog X.w) X.A (call (.builtin id) (v :: us)) (EP X pins σ Q) X.xe s
section
variable {X:Cx} {a b:Expr} {ta tb:TE} {pos:Pos}
theorem IxR.or {r r':R2} (h:IxR X r) (h':IxR X r'):IxR X (fun x y H Q=>r x y H Q\/r' x y H Q):=by
 intro value slice pins s σ H x y v u Q I rx ry q hs;rcases q with q | q
 ·exact h value slice pins s σ H x y v u Q I rx ry q hs
 ·exact h' value slice pins s σ H x y v u Q I rx ry q hs
theorem CP {r:R2} (hr:IxR X r) (ha:PE X a ta) (hb:PE X b tb) (hs:ma b):PE X (.Subscript a b pos) (tOp r ta tb):=by
 intro pins s σ H Q I h;exact Subscript_ (EJ ha hb I h fun v u s2 x y H2 I2 rx ry q=>hr a b pins s2 σ H2 x y v u Q I2 rx ry q (hs _ _))
def FO (K:Fg):R2:=fun x y H Q=>∃ p xs i v,x=.ref p/\y=.int i/\SqL K H p xs/\atI xs i=some v/\Q v H
def Fs (K:Fg):R2:=fun x y H Q=>∃ p xs i v,x=.ref p/\y=.int i/\SqT K H p xs/\atI xs i=some v/\Q v H
def Fz:R2:=fun x y H Q=>∃ z i c,x=.str z/\y=.int i/\z.length<=sizeLine/\atI z.cps.toList i=some c/\Q (.str ⟨#[c]⟩) H
theorem xE:IxR X (FO X.K):=by
 intro value slice pins s σ H x y v u Q I rx ry h hs;obtain ⟨p,xs,i,z,rfl,rfl,hq,he,q⟩:=h;cases rx;obtain ⟨t,rfl⟩:=ry;obtain ⟨its,r,pl,hz⟩:=I.list hq;obtain ⟨j,h1,h2,h3,h4,h5⟩:=mP he;obtain ⟨w,ew,rw'⟩:=r.get h2;have hl:=r.length;have hn:=i3;have fin:EP X pins σ Q w s:=⟨z,H,I,rw',q⟩;by_cases h0:0<=i
 ·have hj:i.toNat=j:=by
   rw [seqIndex_of h0 h5] at h1;exact HU h1
  exact item_listR pl.isList h0 (by omega) (by rw [hj];simpa using ew) fin hs
 ·have hj:(i+(its.toArray.size:Int)).toNat=j:=by
   rw [seqIndex_neg (by omega) h4] at h1;rw [Hr,<-hl];exact HU h1
  exact subscriptTail_builtinR (x:=w) pl.isList.typeIs slot_list_getitem.lookup
   (wpAny_getItem_list_neg (Q:=fun r s'=>r=w/\EP X pins σ Q r s') pl.isList (by omega) (by rw [Hr] <;> omega) (by omega) (by rw [hj];simpa using ew) ⟨rfl,fin⟩) hs
theorem AI:IxR X (Fs X.K):=by
 intro value slice pins s σ H x y v u Q I rx ry h hs;obtain ⟨p,xs,i,z,rfl,rfl,hq,he,q⟩:=h;cases rx;obtain ⟨t,rfl⟩:=ry;obtain ⟨its,r,pl,hz⟩:=I.tuple hq;obtain ⟨j,h1,h2,h3,h4,h5⟩:=mP he;obtain ⟨w,ew,rw'⟩:=r.get h2;have hl:=r.length;have hn:=i3;have fin:EP X pins σ Q w s:=⟨z,H,I,rw',q⟩;exact subscriptTail_builtinR (x:=w) pl.typeIs slot_tuple_getitem.lookup
  (getItem_tuple (j:=j) (Q:=fun r s'=>r=w/\EP X pins σ Q r s') pl (by omega) (by omega) (by rw [Hr,<-hl];exact h1) (by simpa using ew) ⟨rfl,fin⟩) hs
theorem yW:IxR X Fz:=by
 intro value slice pins s σ H x y v u Q I rx ry h hs;obtain ⟨z,i,c,rfl,rfl,hz,he,q⟩:=h;obtain ⟨t,rfl⟩:=rx;obtain ⟨t',rfl⟩:=ry;obtain ⟨j,h1,h2,h3,h4,h5⟩:=mP he;have hl:z.cps.toList.length=z.length:=by simp [Str.length]
 rw [hl] at h1 h4 h5;have hn:=i3
 exact tail_any (typeIs_str s z t) slot_str_getitem.lookup (getItem_str (c:=c) (by
  have e1:decide (i < -(2 ^ 63:Int))=false:=HM (by omega);have e2:decide (i>=2 ^ 63)=false:=HM (by omega)
  rw [e1,e2,Bool.or_false]) (by rw [h1];simpa using h2) ⟨.str ⟨#[c]⟩,H,I.tok _,⟨_,rfl⟩,q⟩) hs
def rIx (K:Fg):R2:=fun x y H Q=>FO K x y H Q\/Fs K x y H Q\/Fz x y H Q
theorem zY:IxR X (rIx X.K):=xE.or (AI.or yW)
theorem o3 (its:List Value) (n j:Nat) (u:Value):Obj.mapSeq (·.setIfInBounds j u) { cls:=.type "list", data:=.seq its.toArray n }={ cls:=.type "list", data:=.seq (its.set j u).toArray n }:=by
 simp [Obj.mapSeq]
theorem Inv.lst {pins:List (Addr×Obj)} {σ:St} {H:Hp} {s:Shared} {p:Addr} {xs:List V} (I:Inv X pins σ H s) (h:H p=some (.lst xs)) :
  ∃ (its:List Value) (n:Nat),Vals xs its/\s.heap.get? p=some { cls:=.type "list", data:=.seq its.toArray n }/\xs.length<=sizeLine:=by
 obtain ⟨z,its,n,r,e⟩:=I.hok p _ h;exact ⟨its,n,r,e,z⟩
theorem Inv.A9 {pins:List (Addr×Obj)} {σ:St} {H:Hp} {s:Shared} {p:Addr} {xs ys:List V} {its its':List Value} {n n':Nat} {f:Obj->Obj} (I:Inv X pins σ H s) (h:H p=some (.lst xs))
  (ho:s.heap.get? p=some { cls:=.type "list", data:=.seq its.toArray n }) (hf:f { cls:=.type "list", data:=.seq its.toArray n }={ cls:=.type "list", data:=.seq its'.toArray n' }) (r:Vals ys its') (hz:ys.length<=sizeLine) (t:Nat) :
  Inv X pins σ (upd H p (.lst ys)) { s with heap:=s.heap.update p f,toks:=t }:=by
 have e:(s.heap.update p f).get? p=some { cls:=.type "list", data:=.seq its'.toArray n' }:=by
  rw [Iy f ho (by rw [hf] <;> rfl),hf]
 refine I.write (x:=p) (e:=p) (by rw [h];trivial) (.inl rfl) (fun b u hb q=>(Ih _ _ (Ne.symm hb)).trans q) ⟨_,e⟩ ?_;exact ⟨hz,its',n',r,e⟩
def Bw:V->V->V->Hp->(Hp->Prop)->Prop:=fun o i v H Q=>∃ p xs k j,o=.ref p/\i=.int k/\H p=some (.lst xs)/\ixN xs.length k=some j/\Q (upd H p (.lst (xs.set j v)))
theorem set_list:DF X Bw:=by
 intro pins s σ H o i v ov iv u Q I ro ri rv h;obtain ⟨p,xs,k,j,rfl,rfl,hp,hj,q⟩:=h;cases ro;obtain ⟨t,rfl⟩:=ri;obtain ⟨its,n,r,ho,hz⟩:=I.lst hp;obtain ⟨h1,h2,h3,h4⟩:=pq hj;have hl:=r.length;have hn:=i3;have I':Inv X pins σ (upd H p (.lst (xs.set j v))) { s with heap:=s.heap.update p (Obj.mapSeq (·.setIfInBounds j u)) } :=
  I.A9 hp ho (o3 its n j u) (r.set rv j) (by rw [HF];exact hz) s.toks
 by_cases h0:0<=k
 ·have hk:k.toNat=j:=by
   rw [seqIndex_of h0 h4] at h1;exact HU h1
  exact PySem.W.ki_setAt ho h0 (by omega) (by rw [Hr,<-hl];exact h4) (by rw [hk];exact ⟨_,I',q⟩)
 ·have hk:(k+(its.toArray.size:Int)).toNat=j:=by
   rw [seqIndex_neg (by omega) h3] at h1;rw [Hr,<-hl];exact HU h1
  exact PySem.W.ki_setBack ho (by omega) (by rw [Hr,<-hl];exact h3) (by omega) (by rw [hk];exact ⟨_,I',q⟩)
theorem k8 (lo hi:Option Int) (n:Nat):(sliceBounds lo hi none n).1=((HT.sIx n 0 lo:Nat):Int)/\(sliceBounds lo hi none n).2.1=((HT.sIx n n hi:Nat):Int)/\(sliceBounds lo hi none n).2.2=1:=by
 refine ⟨?_,?_,rfl⟩
 ·cases lo with
  | none=>simp [sliceBounds,HT.sIx]
  | some i =>
   simp only [sliceBounds,HT.sIx,Option.getD_none,show (1:Int) > 0 by decide,Jg];by_cases h:i < 0
   ·simp only [h,Jg] <;> omega
   ·simp only [h,IG] <;> omega
 ·cases hi with
  | none=>simp [sliceBounds,HT.sIx]
  | some i =>
   simp only [sliceBounds,HT.sIx,Option.getD_none,show (1:Int) > 0 by decide,Jg];by_cases h:i < 0
   ·simp only [h,Jg] <;> omega
   ·simp only [h,IG] <;> omega
theorem jH (its:List Value) (lo hi:Option Int):slicePick its.toArray lo hi none=((its.drop (HT.sIx its.length 0 lo)).take (HT.sIx its.length its.length hi - HT.sIx its.length 0 lo)).toArray:=by
 obtain ⟨h1,h2,h3⟩:=k8 lo hi its.toArray.size;unfold slicePick;rw [h1,h2,h3];simp only [sliceRange_one,pick_run,Hr] <;> rfl
def FL (K:Fg):V->Option Int->Option Int->Hp->VK->Prop:=fun x lo hi H Q=>∃ a xs,x=.ref a/\SqL K H a xs/\∀ p,H p=none->Q (.ref p) (upd H p (.lst (sW xs lo hi)))
theorem hZ:SlR X (FL X.K):=by
 intro pins s σ H x v vl vu lo hi sl Q I rx hs pl pu h;obtain ⟨a,xs,rfl,hx,q⟩:=h;cases rx;obtain ⟨its,r,ht,hz⟩:=I.list hx;have hlen:=r.length;refine ⟨"list", _,slot_list_getitem.lookup,ht.isList.typeIs,?_⟩;refine wpAny_getItem_list_slice ht.isList hs pl pu .none (by simp) ?_ (by rw [Hr] <;> omega);rw [jH,<-hlen];refine ⟨.ref s.heap.objs.size,_,I.laid (t':=s.toks) (o:=.lst (sW xs lo hi)) (fun b ob q=>Hg _ q) (Hl _) ?_,rfl,q _ (I.hok.fresh (Hl _))⟩;exact ⟨HJ (gB xs lo hi) hz,_,0,(r.drop (HT.sIx xs.length 0 lo)).take (HT.sIx xs.length xs.length hi - HT.sIx xs.length 0 lo),HC _ rfl⟩
theorem ku:OpR X (compareOp .NotIn) (fun x y H Q=>∃ i j,x=.str i/\y=.str j/\Q (.bl (!(!(Builtin.Str.occurrences j i 0 j.length 1).isEmpty))) H):=by
 intro pins s σ H x y v u Q I rx ry h;obtain ⟨i,j,rfl,rfl,q⟩:=h;obtain ⟨t,rfl⟩:=rx;obtain ⟨t',rfl⟩:=ry;exact notIn_str ⟨.bl _,H,I,rfl,q⟩
theorem jB:aS X (.type "tuple") (fun xs H Q=>∃ p ys,xs=[.ref p]/\((SqL X.K H p ys/\∀ l,H l=none->Q (.ref l) (upd H l (.tup ys)))\/(SqT X.K H p ys/\Q (.ref p) H))):=by
 intro pins s σ H xs us Q I r h;obtain ⟨p,ys,rfl,h⟩:=h;obtain ⟨u,rfl,rx⟩:=vals1 r;cases rx;rcases h with ⟨hq,q⟩ | ⟨hq,q⟩
 ·obtain ⟨its,r',pl,hz⟩:=I.list hq;have hlen:=r'.length;refine call_tuple_list pl.isList (fun h' kp=>?_) (by simp only [Hr] <;> omega);have I1:Inv X pins σ H { s with heap:=h' }:=I.kept (t':=s.toks) kp;have I2:Inv X pins σ (upd H h'.objs.size (.tup ys)) { s with heap:=h'.push { cls:=.type "tuple", data:=.seq its.toArray } } :=
   I1.laid (t':=s.toks) (fun b o e=>Hg _ e) (Hl _) (show aR X.prog X.w _ _ _ (.tup ys) from ⟨hz,its,r',IsTup.new _ _⟩)
  exact ⟨.ref h'.objs.size,_,I2,rfl,q _ (I1.hok.fresh (Hl _))⟩
 ·obtain ⟨its,r',pl,hz⟩:=I.tuple hq;exact call_tuple_same pl ⟨.ref p,H,I,rfl,q⟩
def tyV (K:Fg) (T:String) (x:V) (H:Hp):Prop:=match x with
 | .str _=>T = "str"
 | .int _=>T = "int"
 | .ref p=>(T = "list" /\ ∃ xs,SqL K H p xs)\/(T = "tuple" /\ ∃ o,K.lookup p=some o/\o.cls=.type "tuple" /\ o.dict=none) \/
   (T = "dict" /\ ((∃ kvs,H p=some (.dK kvs))\/(∃ kvs,H p=some (.dT kvs))\/∃ ep xs,H p=some (.dD ep xs)))\/(T = "set" /\ ∃ S n,H p=some (.set S n))
 | _=>False
theorem A1 {pins:List (Addr×Obj)} {σ:St} {H:Hp} {s:Shared} {T:String} {x:V} {v:Value} (I:Inv X pins σ H s) (r:RelV x v) (ty:tyV X.K T x H) :
  s.TypeIs v T/\∀ a,v=.ref a->∃ ob,s.heap.get? a=some ob/\ob.dict=none:=by
 cases x with
 | str z =>
  obtain ⟨t,rfl⟩:=r;cases (show T = "str" from ty);exact ⟨typeIs_str s z t,fun _ e=>nomatch e⟩
 | int i =>
  obtain ⟨t,rfl⟩:=r;cases (show T = "int" from ty);exact ⟨typeIs_int s i t,fun _ e=>nomatch e⟩
 | ref p =>
  cases r;rcases ty with ⟨rfl,xs,hq⟩ | ⟨rfl,o,hk,hc,hd⟩ | ⟨rfl,hk⟩ | ⟨rfl,S,n,hk⟩
  ·obtain ⟨its,_,pl,_⟩:=I.list hq;refine ⟨pl.isList.typeIs,fun a e=>?_⟩;cases e;obtain ⟨o,n,e,c,hd,_⟩:=pl;exact ⟨o,e,hd⟩
  ·refine ⟨⟨o,I.kIn p o hk,hc⟩,fun a e=>?_⟩;cases e;exact ⟨o,I.kIn _ o hk,hd⟩
  ·have z:∃ o,s.heap.get? p=some o/\o.ExactDict:=by
    rcases hk with ⟨kvs,hk⟩ | ⟨kvs,hk⟩ | ⟨ep,xs,hk⟩
    ·obtain ⟨_,_,_,_,o,_,_,e,ex,_⟩:=I.hok p _ hk;exact ⟨o,e,ex⟩
    ·obtain ⟨_,_,_,_,o,_,_,e,ex,_⟩:=I.hok p _ hk;exact ⟨o,e,ex⟩
    ·obtain ⟨_,_,_,o,_,e,ex,_⟩:=I.hok p _ hk;exact ⟨o,e,ex⟩
   obtain ⟨o,e,ex⟩:=z;refine ⟨⟨o,e,ex.1⟩,fun a e2=>?_⟩;cases e2;exact ⟨o,e,ex.2.1⟩
  ·obtain ⟨o,_,_,_,e,ex,_⟩:=I.hok p _ hk;refine ⟨⟨o,e,ex.1⟩,fun a e2=>?_⟩;cases e2;exact ⟨o,e,ex.2.1⟩
 | _=>exact False.elim ty
def tBM (K:Fg) (T:String) (r:V->List V->Hp->VK->Prop) (to:TE) (t:TA):TE:=fun σ H Q=>to σ H fun x H1=>tyV K T x H1/\t σ H1 fun xs H2=>r x xs H2 Q
variable {o e:Expr} {es:List Expr} {to:TE} {t:TA} {name:Str} {apos cpos:Pos} {T id:String} {r:V->List V->Hp->VK->Prop}
theorem D2 (pa:PlainAttrs T) (slot:Slot T name id) (hty:typeOf (.builtin id)=pure (.type "method_descriptor")) (hm:MtR X id r) (ho:PE X o to) (ha:PA X (e :: es) t)
  (hbase:attributeBase o name X.env (eval o X.env)=eval o X.env:=by rfl)
  (hfew:((backTo cpos (starEach (e :: es) X.env)).all (fun x=>!x.1)&&(backToKw cpos (keywordEach [] X.env)).all (fun x=>x.1.isSome)
   && decide ((e :: es).length+([]:List Keyword).length+(if ([]:List Keyword).isEmpty then 0 else 1) < 30))=true:=by rfl)
  (hline:(apos.endLine==cpos.line)=true:=by rfl) (hs:starEach (e :: es) X.env=(false,eval e X.env) :: starEach es X.env:=by rfl) (hplain:(backTo cpos (starEach es X.env)).any (·.1)=false:=by rfl) :
  PE X (.Call (.Attribute o name apos) (e :: es) [] cpos) (tBM X.K T r to t):=by
 intro pins s σ H Q I h;refine wpAny_Call_method_late hbase hfew hline rfl (thn (ho pins s σ H _ I h) fun v s1 ⟨x,H1,I1,r1,ty,q1⟩=>?_);obtain ⟨h1,h2⟩:=A1 I1 r1 ty;refine ⟨T,id,pa,slot,hty,h1,h2,?_⟩;have hA:=ha cpos pins s1 σ H1 _ I1 q1;rw [hs] at hA ⊢;refine Calls.callWith_builtin (by show (false||(backTo cpos (starEach es X.env)).any (·.1))=false;rw [hplain] <;> rfl) (Calls.evalArgs_plain ?_);exact thn hA fun us s2 ⟨vs,H2,I2,r2,q2⟩=>hm pins s2 σ H2 x vs v us Q I2 r1 r2 q2
end
end L2
namespace L2
open PySem PySem.Spec PyProof.Rows
def MtM (X:Cx) (id:String) (r:V->List V->Hp->VK->Prop):Prop :=
 ∀ (pins:List (Addr×Obj)) (s:Shared) (σ:St) (H:Hp) (x:V) (xs:List V) (v:Value) (us:List Value) (Q:VK),Inv X pins σ H s->RelV x v->Vals xs us->r x xs H Q ->
  wpAny (model X.prog X.w) X.A (call (.builtin id) (v :: us)) (EP X pins σ Q) X.xe s
theorem Vals.one:∀ {x:V} {us:List Value},Vals [x] us->∃ u,us=[u]/\RelV x u
 | _,_,.cons r .nil=>⟨_,rfl,r⟩
theorem Vals.dropLast {xs:List V} {us:List Value} (h:Vals xs us):Vals xs.dropLast us.dropLast:=by
 induction h with
 | nil=>exact .nil
 | cons r t ih =>
  cases t with
  | nil=>exact .nil
  | cons q t'=>exact .cons r ih
section
variable {X:Cx} {pins:List (Addr×Obj)} {σ:St} {H:Hp} {s:Shared} {l b:Addr} {xs ys zs:List V}
theorem Inv.Gp {its its':List Value} {n:Nat} {f:Array Value->Array Value} {t':Nat} (I:Inv X pins σ H s) (hH:H l=some (.lst xs))
  (e:s.heap.get? l=some { cls:=.type "list", data:=.seq its.toArray n }) (hf:f its.toArray=its'.toArray) (hv:Vals ys its') (hz:ys.length<=sizeLine) :
  Inv X pins σ (upd H l (.lst ys)) { s with heap:=s.heap.update l (Obj.mapSeq f),toks:=t' }:=by
 have q:=PySem.IsL.update e f;rw [hf] at q;refine I.write (x:=l) (e:=l) (by rw [hH];exact trivial) (.inl rfl) (fun b' u hb hu=>(Ih s.heap (Obj.mapSeq f) (Ne.symm hb)).trans hu) ⟨_,q⟩ ?_;exact ⟨hz,its',_,hv,q⟩
theorem Inv.GH {its:List Value} {t':Nat} (I:Inv X pins σ H s) (hv:Vals ys its) (hz:ys.length<=sizeLine) :
  Inv X pins σ (upd H s.heap.objs.size (.lst ys)) { s with heap:=s.heap.push { cls:=.type "list", data:=.seq its.toArray },toks:=t' } :=
 I.laid (fun _ _ q=>Hg _ q) (Hl _) ⟨hz,its,0,hv,HC _ rfl⟩
theorem Inv.fresh (I:Inv X pins σ H s):H s.heap.objs.size=none:=I.hok.fresh (Hl _)
theorem Inv.F4 (I:Inv X pins σ H s) (hH:H l=some (.lst xs)):xs.length<=sizeLine/\∃ (its:List Value) (n:Nat),Vals xs its/\xs.length=its.length/\s.heap.get? l=some { cls:=.type "list", data:=.seq its.toArray n }:=by
 obtain ⟨z,its,n,r,e⟩:=I.hok l _ hH;exact ⟨z,its,n,r,r.length,e⟩
end
section
variable {X:Cx}
def qb:V->List V->Hp->VK->Prop:=fun x vs H Q=>∃ l xs y,x=.ref l/\vs=[y]/\H l=some (.lst xs)/\xs.length < sizeLine/\Q .non (upd H l (.lst (xs++[y])))
theorem lh:MtM X "list.append" qb:=by
 intro pins s σ H x vs v us Q I rx rv h;obtain ⟨l,xs,y,rfl,rfl,hH,hz,q⟩:=h;cases rx;obtain ⟨u,rfl,ru⟩:=rv.one;obtain ⟨z,its,n,r,hl,e⟩:=I.F4 hH;refine call_meets F.slot_list_append ⟨_,e,rfl⟩ F.entry_list_append (F.args_list_append_2 _ _) (PySem.list_append l its.toArray n u (by rw [Hr];omega)) ⟨e,?_⟩;refine ⟨.non,_,I.Gp (its':=its++[u]) hH e (by simp) (r.append (.cons ru .nil)) ?_,rfl,q⟩;rw [Hq,Ja];omega
end
end L2
namespace L2
open PySem PySem.Spec PyProof.Rows
section
variable {κ:Type} [DecidableEq κ]
noncomputable def putK (kvs:List (κ×V)) (k:κ) (v:V):List (κ×V) :=
 if (kvs.any fun kv=>decide (kv.1=k))=true then kvs.map (fun kv=>if kv.1=k then (kv.1,v) else kv) else kvs++[(k,v)]
theorem lV (kvs:List (κ×V)) (k:κ) (v:V):(putK kvs k v).length<=kvs.length+1:=by
 unfold putK;split
 ·rw [Hb];omega
 ·rw [Hq,Hx,List.length_nil];omega
theorem KV.any {kvs:List (κ×V)} {vs:List (κ×Value)} (r:KV kvs vs) (k:κ):(kvs.any fun kv=>decide (kv.1=k))=vs.any fun kv=>decide (kv.1=k):=by
 unfold KV at r;induction r with
 | nil=>rfl
 | cons h t ih=>rw [Jb,Jb,ih,h.1]
theorem KV.GK {kvs:List (κ×V)} {vs:List (κ×Value)} (r:KV kvs vs) (k:κ) {y:V} {u:Value} (ry:RelV y u) :
  KV (kvs.map fun kv=>if kv.1=k then (kv.1,y) else kv) (vs.map fun kv=>if kv.1=k then (kv.1,u) else kv):=by
 unfold KV at r ⊢;induction r with
 | nil=>exact .nil
 | @cons p q ps qs h t ih =>
  rw [List.map_cons,List.map_cons];refine .cons ?_ ih;obtain ⟨h1,h2⟩:=h;by_cases e:p.1=k
  ·rw [Ht e,Ht (h1.symm.trans e)];exact ⟨h1,ry⟩
  ·rw [Hv e,Hv (fun z=>e (h1.trans z))];exact ⟨h1,h2⟩
theorem KV.put {kvs:List (κ×V)} {vs:List (κ×Value)} (r:KV kvs vs) (k:κ) {y:V} {u:Value} (ry:RelV y u):KV (putK kvs k y) (stored vs k u):=by
 unfold putK stored;rw [r.any k];by_cases e:(vs.any fun kv=>decide (kv.1=k))=true
 ·rw [Ht e,Ht e];exact r.GK k ry
 ·rw [Hv e,Hv e];exact Paired.snoc r ⟨rfl,ry⟩
end
theorem Dd {P:Program} {w:World} {k:Key} {u:Value} (r:RelV (kV k) u):(aj P w).is k u=true:=by
 cases k with
 | inl i=>obtain ⟨t,e⟩:=(show ∃ t,u=Value.int i t from r);subst e;exact lE P w i t
 | inr x=>obtain ⟨t,e⟩:=(show ∃ t,u=Value.str x t from r);subst e;exact gu P w x t
section
variable {X:Cx} {pins:List (Addr×Obj)} {σ:St} {H:Hp} {s:Shared} {a:Addr} {y v:V} {u r:Value} {o:Option V} {A:Around} {E:Value->Shared->Prop}
theorem Inv.big (I:Inv X pins σ H s):sysModules < s.heap.objs.size:=by
 have h:mainGlobals < s.heap.objs.size:=(I.mod.glob.keeps I.bk).lt;exact Nat.lt_trans (by decide) h
theorem lH {h':Heap} {t':Nat} {ob:HO} (I:Inv X pins σ H s) (mu:Mut (H a)) (hs:Heap.SameBut a s.heap h') (he:∃ q,h'.get? a=some q) (new:aR X.prog X.w (upd H a ob) h' a ob) :
  Inv X pins σ (upd H a ob) { s with heap:=h',toks:=t' } :=
 I.write (x:=a) (e:=a) mu (.inl rfl) (fun b q hb z=>(hs.2 b hb).trans z) he new
end
def FC (i:Expr):Prop:=∀ ov iv,subscripted i false ov iv=operate [ov,iv] (getItem ov iv)
theorem wO {prog:Program} {w:World} {A:Around} {E:Value->Shared->Prop} {s:Shared} {env:Env} {value slice:Expr} {pos:Pos} {T id:String} {Q:Value->Shared->Prop}
  (hl:typeLookup (.type T) "__getitem__" = pure (some (.builtin id))) (hs:FC slice)
  (h:wpAny (model prog w) A (eval value env) (fun o s₁=>wpAny (model prog w) A (eval slice env) (fun i s₂=>s₂.TypeIs o T/\wpAny (model prog w) A (getItem o i) Q E s₂) E s₁) E s) :
  wpAny (model prog w) A (eval (.Subscript value slice pos) env) Q E s:=by
 refine Subscript_ (HP h (fun o s₁ h₁=>HP h₁ (fun i s₂ h₂=>?_) fun _ _ x=>x) fun _ _ x=>x);obtain ⟨hT,h₂⟩:=h₂;unfold subscriptTail;refine Ha ?_;rw [getitemInPython_of_ne hT.not_modules];refine Ha (JD hT hl ?_);have fin:wpAny (model prog w) A (subscripted slice false o i) (fun r s₃=>wpAny (model prog w) A (letTemporaryGo value o r>>=fun _=>pure r) Q E s₃) E s₂:=by
  rw [hs o i];exact wpAny_operating (HP h₂ (fun r s₃ h₃=>Ha (wpAny_letTemporaryGo (He h₃))) fun _ _ x=>x)
 first
  | exact He (Ha fin)
  | exact Ha (He (Ha fin))
  | exact Ha fin
def nM:List (TE×TE)->St->Hp->(List (V×V)->Hp->Prop)->Prop
 | [],_,H,Q=>Q [] H
 | (tk,tv) :: r,σ,H,Q=>tk σ H fun x H1=>tv σ H1 fun y H2=>nM r σ H2 fun ps H3=>Q ((x,y) :: ps) H3
abbrev VV:List (V×V)->List (Value×Value)->Prop:=Paired fun p q=>RelV p.1 q.1/\RelV p.2 q.2
def PPs (X:Cx) (pos:Pos) (keys:List (Option Expr)) (values:List Expr) (trs:List (TE×TE)):Prop :=
 ∀ (pins:List (Addr×Obj)) (s:Shared) (σ:St) (H:Hp) (Q:List (V×V)->Hp->Prop),Inv X pins σ H s->nM trs σ H Q ->
  wpAny (model X.prog X.w) X.A (evalPairs (pairTrees keys values X.env pos)) (fun vs s'=>∃ ps H',Inv X pins σ H' s'/\VV ps vs/\Q ps H') X.xe s
theorem v8 {X:Cx} {pos:Pos}:PPs X pos [] [] []:=fun pins s σ H Q I h=>pairTrees_nil_walk ⟨[],H,I,.nil,h⟩
theorem uE {X:Cx} {pos:Pos} {k v:Expr} {ks:List (Option Expr)} {vs:List Expr} {tk tv:TE} {trs:List (TE×TE)} (hk:PE X k tk) (hv:PE X v tv) (hr:PPs X pos ks vs trs) :
  PPs X pos (some k :: ks) (v :: vs) ((tk,tv) :: trs):=fun pins s σ H Q I h =>
 pairTrees_cons_walk (thn (hk pins s σ H _ I h) fun u s1 ⟨x,H1,I1,rx,q1⟩=>thn (hv pins s1 σ H1 _ I1 q1) fun w2 s2 ⟨y,H2,I2,ry,q2⟩ =>
  thn (hr pins s2 σ H2 _ I2 q2) fun ws s3 ⟨ps,H3,I3,rel,q3⟩=>⟨(x,y) :: ps,H3,I3,.cons ⟨rx,ry⟩ rel,q3⟩)
noncomputable def cA (kvs more:List (Key×V)):List (Key×V):=more.foldl (fun acc kv=>putK acc kv.1 kv.2) kvs
theorem KV.merge:∀ {more:List (Key×V)} {rs:List (Key×Value)} {kvs:List (Key×V)} {vs:List (Key×Value)},KV more rs->KV kvs vs->KV (cA kvs more) (merged vs rs):=by
 intro more rs kvs vs r;unfold KV at r;induction r generalizing kvs vs with
 | nil=>intro q;exact q
 | @cons p q ps qs h t ih =>
  intro r0;have e:KV (putK kvs p.1 p.2) (stored vs q.1 q.2):=by
   have:=r0.put p.1 h.2;rw [<- h.1];exact this
  exact ih e
theorem dW:∀ (more kvs:List (Key×V)),(cA kvs more).length<=kvs.length+more.length
 | [],kvs=>by show kvs.length<=kvs.length+0;omega
 | p :: r,kvs=>by
  have h1:=dW r (putK kvs p.1 p.2);have h2:=lV kvs p.1 p.2;show (cA (putK kvs p.1 p.2) r).length<=_;rw [Hx];omega
theorem jg {P:Program} {w:World}:∀ {kvs:List (Key×V)} {ws:List (Value×Value)},VV (kvs.map fun kv=>(kV kv.1,kv.2)) ws->∃ rs,Carries (aj P w) ws rs/\KV kvs rs
 | [],_,r=>by rw [List.map_nil] at r;cases r;exact ⟨[],True.intro,.nil⟩
 | p :: kvs,_,r=>by
  rw [List.map_cons] at r;cases r with
  | @cons a b as bs h t =>
   obtain ⟨rs,c,q⟩:=jg (P:=P) (w:=w) t;obtain ⟨b1,b2⟩:=b;exact ⟨(p.1,b2) :: rs,⟨Dd h.1,rfl,c⟩,.cons ⟨rfl,h.2⟩ q⟩
end L2
namespace Att
open PySem PySem.W PySem.Calls PyProof.Rows
theorem hV {P:Params} {h:Heap}:∀ (ns:List Int) (vs:List Value),WellAll P h vs (ns.map WData.int)->IntsAre vs ns:=by
 intro ns;induction ns with
 | nil =>
  intro vs w;rw [List.map_nil] at w;cases w;exact .nil
 | cons n ns ih =>
  intro vs w;rw [List.map_cons] at w;cases w with
  | cons a b =>
   cases a;exact .cons _ _ (ih _ b)
theorem sJ {l:OpenLaw} {n:Nat} (hn:l.most=some n) {P:Params} {h:Heap} {args:List WData} {vals:List Value}
  (hpre:l.row.toRowW.claim.pre args=true) (hwl:WellAll P h vals args) :
  ∃ a vs ns,vals=[Value.ref a]/\args=[WData.list (ns.map WData.int)]/\h.get? a=some { cls:=.type "list", data:=.seq vs.toArray }/\IntsAre vs ns/\ns.length<=n:=by
 have hsh:WShape.hasAll [] args [.list .int]=true:=(pre_splitW hpre).1;have hc:l.pre.holds [] { args:=args }=true:=(pre_splitW hpre).2;obtain ⟨d,r,rfl,h1,h2⟩:=hasAllW_cons hsh;obtain rfl:=hasAllW_nil h2;obtain ⟨xs,rfl,h3⟩:=hasW_list h1;obtain ⟨ns,rfl⟩:=items_int h3;have hlen:ns.length<=n:=by
  unfold OpenLaw.pre at hc;have h4:(WTm.not (.lt (.lit (.int (n:Int))) (.len (.arg 0)))).holds [] { args:=[.list (ns.map .int)] }=true:=by
   have h4:=(holds_andW hc).1;rw [hn] at h4;exact h4
  have h5:=condW_of h4 (w_not (w_lt w_lit (w_len_list (w_arg rfl))));rw [Hb] at h5;refine Nat.le_of_not_lt fun q=>?_;have q':(n:Int) < ((ns.length:Nat):Int):=by omega
  first
   | (rw [HD q'] at h5;exact absurd h5 (by decide))
   | (simp at h5;omega)
 cases hwl with
 | cons w1 w2 =>
  cases w2;cases w1 with
  | list ho hall=>exact ⟨_,_,ns,rfl,rfl,ho,hV ns _ hall,hlen⟩
theorem pE (l:OpenLaw) (args:List WData):l.row.toRowW.claim.post args (.bool true) args=true :=
 postW_of (r:=l.row.toRowW) (X:=(true==true))
  (show WShape.has [] (.bool true) .bool=true by first | rfl | decide | simp [WShape.has,WShape.arms,WShape.armsAll])
  (show (WTm.eq .res (.lit (.bool true))).value [] { args:=args,res:=some (.bool true),after:=args }=some (.bool (true==true)) from w_eq_bool (w_res rfl) w_lit) rfl
theorem mD {l:OpenLaw} {n:Nat} {q:Program} {loose:List Str} {XP:(Str->Option Value)->Heap->Prop} {YP:World->Heap->Prop} {d:DefRec}
  (hn:l.most=some n) (hdf:d.params.defaults=[])
  (call:∀ (w:World) (s₀ s₁:Shared) (mg mb:Str->Option Value) (fa:Addr) (o:Obj) (pm cd doc:Value) (a:Addr) (vs:List Value) (ns:List Int),
   Ground q loose [] XP w s₀ mg mb s₁.heap->YP w s₁.heap ->
   s₁.heap.get? fa=some o->o.data=.func (docDef d.name d.params d.body d.scope pm cd doc)->s₁.heap.CodeRec cd d.name->mg d.name=some (.ref fa) ->
   s₁.heap.get? a=some { cls:=.type "list", data:=.seq vs.toArray }->IntsAre vs ns->ns.length<=n->s₁.gens=#[] ->
   codeAny (model l.prog w) callerA (.call (.ref fa) ⟨[.ref a],[]⟩) (fun r s'=>r=.ok (.ret (.bool true))/\OldK s₁.heap s'.heap/\s'.os=s₁.os/\AllBare s'.gens) s₁) :
  WalkO q loose XP YP l.row.toRowW d [] (fun f vs=>PySem.call f vs):=by
 intro w s₀ s₁ mg mb G Y fa o pm cd doc dV kV ho hd hcd hD hmg hg args vals as hpre hlay hrd hwl hlo;obtain rfl:dV=.none:=Dflts.none hD hdf;obtain rfl:kV=.none:=Dflts.noKw hD;obtain ⟨a,vs,ns,rfl,rfl,hobj,hints,hlen⟩:=sJ hn hpre hwl;refine enter_call (codeAny_mono (call w s₀ s₁ mg mb fa o pm cd doc a vs ns G Y ho (fd_plain hd) hcd hmg hobj hints hlen hg) fun r s' hq=>?_);obtain ⟨rfl,h2,h3,h4⟩:=hq;exact ⟨.inl ⟨.bool true,.bool true,[],rfl,fun _=>rfl,.bool true,pE l _,fun _=>⟨List.Pairwise.nil,fun _ hm=>(nomatch hm)⟩⟩,h2,h3,h4⟩
end Att
namespace L2
open PySem PySem.Spec PyProof.Rows
theorem kC:∀ {vs:List Value} {ns:List Int},IntsAre vs ns->Vals (ns.map V.int) vs
 | _,_,.nil=>.nil
 | _,_,.cons n t h=>.cons ⟨t,rfl⟩ (kC h)
def B0 (H:Hp):Prop:=∀ b,H b=none\/∃ o xs,H b=some (.frz o (.lst xs))
theorem ui {P:Program} {w:World} {K:Fg} {mg mb:Str->Option Value} {CX:CXT} {k:Nat} {fa a:Addr} {fd:FuncData} {x:Str} {sp:Sp} {s₁:Shared} {vs:List Value} {ns:List Int}
  (KX:K.In s₁.heap) (hns:s₁.heap.Ns mainGlobals mg) (hb:s₁.heap.Ns builtinsNs mb) (hbb:∀ x:Str,x ≠ "__name__" -> mb x=bootBuiltins x) (hlim:s₁.heap.NoLimit) (hg:s₁.gens=#[])
  (ha:s₁.heap.get? a=some { cls:=.type "list", data:=.seq vs.toArray }) (hi:IntsAre vs ns) (hl:ns.length<=sizeLine) (hr:c6 k callerA)
  (F:∀ base:Heap,K.In base->base.Ns mainGlobals mg->aY P w K mg base CX k fa fd [x] sp) (hbind:∀ (s:Shared) (u:Value),BindsTo s fd ⟨[u],[]⟩ [(x,u)])
  (hsp:∀ H:Hp,B0 H->SqL K H a (ns.map V.int)->sp [.ref a] H (fun v _=>v=.bl true) fun _ _ _=>False)
  (hCX:∀ H e s',CX [] H s₁ (fun _ _ _=>False) e s'->False) :
  codeAny (model P w) callerA (.call (.ref fa) ⟨[.ref a],[]⟩) (fun r s'=>r=.ok (.ret (.bool true))/\OldK s₁.heap s'.heap/\s'.os=s₁.os/\AllBare s'.gens) s₁:=by
 have rv:=kC hi;have lenV:=hi.length;have core:∀ H:Hp,B0 H->SqL K H a (ns.map V.int)->HOk P w H s₁.heap->(∀ b,H b≠none->b=a)->(H a≠none->K.lookup a=none) ->
   codeAny (model P w) callerA (.call (.ref fa) ⟨[.ref a],[]⟩) (fun r s'=>r=.ok (.ret (.bool true))/\OldK s₁.heap s'.heap/\s'.os=s₁.os/\AllBare s'.gens) s₁:=by
  intro H hO hS hok hA hK;have base_of:∀ {b:Addr} {o:Obj},s₁.heap.get? b=some o->H b=none->(tN s₁.heap H).get? b=some o:=fun e n=>tI e n;have noA:∀ {b:Addr} {o:Obj} {es:Array DictEntry} {ep:Nat},s₁.heap.get? b=some o->o.data=.dict es ep->H b=none:=fun {b o es ep} e d=>by
   cases q:H b with
   | none=>rfl
   | some u =>
    have e':b=a:=hA b (by rw [q];simp);subst e';rw [ha] at e;cases e;have d':Data.seq vs.toArray _=Data.dict es ep:=d;cases d'
  have nsK:∀ {b:Addr} {m:Str->Option Value},s₁.heap.Ns b m->(tN s₁.heap H).Ns b m:=fun {b m} ⟨o,es,ep,e,d,r⟩=>⟨o,es,ep,base_of e (noA e d),d,r⟩
  have hKb:K.In (tN s₁.heap H):=fun b o e=>base_of (KX b o e) (by
   cases q:H b with
   | none=>rfl
   | some u =>
    have e':b=a:=hA b (by rw [q];simp);subst e'
    rw [hK (by rw [q];simp)] at e;cases e)
  have hM:Mod K mg (tN s₁.heap H):=⟨hKb,nsK hns,⟨mb,nsK hb,hbb⟩,let ⟨mc,h1,h2⟩:=hlim;⟨mc,nsK h1,h2⟩⟩;have e0:BP P w K mg (tN s₁.heap H) callerA [] s₁ H:=⟨rfl,hM,fun b o e=>xQ e,Nat.le_of_eq (rL _ _),trivial,fun b hb=>absurd (show b∈([]:List Addr) from hb) (by simp),hok,.of_eq hg⟩;refine codeAny_mono ((F _ hKb (nsK hns)).run callerA [] s₁ H ⟨[.ref a],[]⟩ [.ref a] [.ref a] _ _ hr e0 (hbind s₁ (.ref a)) (.cons rfl .nil) (hsp H hO hS)) fun r s' h=>?_;cases r with
  | error e=>exact (hCX H e s' h).elim
  | ok fl =>
   cases fl with
   | next=>exact False.elim h
   | brk=>exact False.elim h
   | cont=>exact False.elim h
   | ret u =>
    obtain ⟨v,H',os,bare,un,hok',r',q⟩:=h;have q':v=.bl true:=q;subst q';obtain rfl:u=Value.bool true:=r';refine ⟨rfl,OldK.of_keep fun b o e=>?_,os,bare⟩;cases q:H b with
    | none=>exact un.keep b o e q (by intro z;exact absurd (show b∈([]:List Addr) from z) (by simp)) (by simp)
    | some u =>
     rcases hO b with z | ⟨ob,xs,z⟩
     ·rw [q] at z;cases z
     ·have z2:=un.pG b ob _ z;obtain ⟨e1,_⟩:=hok b _ z;obtain ⟨e2,_⟩:=hok' b _ z2;rw [e] at e1;cases e1;exact e2
 cases hk:K.lookup a with
 | some o =>
  have e:=KX a o hk;rw [ha] at e;cases e;refine core (fun _=>none) (fun _=>.inl rfl) (.inr ⟨_,vs.toArray,_,hk,rfl,rfl,rfl,by rw [Hr,lenV];exact hl,by simpa using rv⟩) (fun b u z=>by have z':(none:Option HO)=some u:=z;cases z') (fun b z=>absurd rfl z) fun z=>absurd rfl z
 | none =>
  refine core (fun b=>if b=a then some (.frz { cls:=.type "list", data:=.seq vs.toArray } (.lst (ns.map V.int))) else none) (fun b=>?_) (.inl (.inr ⟨{ cls:=.type "list", data:=.seq vs.toArray },Ht rfl⟩)) (fun b u z=>?_) (fun b z=>?_) fun _=>hk
  ·by_cases hb:b=a
   ·exact .inr ⟨_,_,Ht hb⟩
   ·exact .inl (Hv hb)
  ·by_cases hb:b=a
   ·have z':=(Ht hb).symm.trans z;cases z';subst hb;exact ⟨ha,by rw [Hb];exact hl,vs,_,rv,ha⟩
   ·have z':=(Hv hb).symm.trans z;cases z'
  ·by_cases hb:b=a
   ·exact hb
   ·exact absurd (Hv hb) z
end L2
namespace L2
open PySem PySem.Spec PyProof.Rows
abbrev KOf {K:Fg} {h:Heap} (_:K.In h):Fg:=K
theorem ya {l:PySem.W.OpenLaw} {n k:Nat} {q:Program} {loose:List Str} {XP:(Str->Option Value)->Heap->Prop} {YP:World->Heap->Prop} {d:DefRec} {K:Params->Fg} {CX:World->CXT} {sp:World->Sp} {x:Str}
  (hn:l.most=some n) (hn2:n<=sizeLine) (hdf:d.params.defaults=[]) (hr:c6 k callerA)
  (hY:∀ (w:World) (h:Heap),YP w h->(K w.params).In h)
  (F:∀ (w:World) (mg:Str->Option Value) (fa:Addr) (h:Heap),(K w.params).In h->h.Ns mainGlobals mg->mg d.name=some (.ref fa) ->
   ∃ fd:FuncData,(∀ (s:Shared) (u:Value),BindsTo s fd ⟨[u],[]⟩ [(x,u)]) /\
    ∀ base:Heap,(K w.params).In base->base.Ns mainGlobals mg->aY l.prog w (K w.params) mg base (CX w) k fa fd [x] (sp w))
  (hsp:∀ (w:World) (H:Hp) (a:Addr) (ns:List Int),ns.length<=n->B0 H->SqL (K w.params) H a (ns.map V.int)->sp w [.ref a] H (fun v _=>v=.bl true) fun _ _ _=>False)
  (hCX:∀ (w:World) (H:Hp) (s:Shared) (e:Value) (s':Shared),CX w [] H s (fun _ _ _=>False) e s'->False) :
  PySem.W.WalkO q loose XP YP l.row.toRowW d [] (fun f vs=>PySem.call f vs):=by
 refine Att.mD hn hdf fun w s₀ s₁ mg mb fa o pm cd doc a vs ns G Y ho hd hcd hmg hobj hints hlen hg=>?_;have KX:=hY w _ Y;obtain ⟨fd,hb,hF⟩:=F w mg fa _ KX G.T.g hmg;exact ui KX G.T.g G.T.b G.T.builtins G.T.nolimit hg hobj hints (HJ hlen hn2) hr hF hb (fun H hO hS=>hsp w H a ns hlen hO hS) fun H e s'=>hCX w H s₁ e s'
theorem tm {l:PySem.W.OpenLaw} {n k:Nat} {q:Program} {loose:List Str} {XP:(Str->Option Value)->Heap->Prop} {YP:World->Heap->Prop} {d:DefRec} {K:Params->Fg} {CX:CXT} {sp:Fg->Sp} {x:Str}
  (hn:l.most=some n) (hn2:n<=sizeLine) (hdf:d.params.defaults=[]) (hr:c6 k callerA)
  (hY:∀ (w:World) (h:Heap),YP w h->(K w.params).In h)
  (F:∀ (w:World) (mg:Str->Option Value) (fa:Addr) (h:Heap),(K w.params).In h->h.Ns mainGlobals mg->mg d.name=some (.ref fa) ->
   ∃ fd:FuncData,(∀ (s:Shared) (u:Value),BindsTo s fd ⟨[u],[]⟩ [(x,u)]) /\
    ∀ base:Heap,(K w.params).In base->base.Ns mainGlobals mg->aY l.prog w (K w.params) mg base CX k fa fd [x] (sp (K w.params)))
  (hsp:∀ (K:Fg) (H:Hp) (a:Addr) (ns:List Int),ns.length<=n->B0 H->SqL K H a (ns.map V.int)->sp K [.ref a] H (fun v _=>v=.bl true) fun _ _ _=>False)
  (hCX:∀ (H:Hp) (s:Shared) (e:Value) (s':Shared),CX [] H s (fun _ _ _=>False) e s'->False) :
  PySem.W.WalkO q loose XP YP l.row.toRowW d [] (fun f vs=>PySem.call f vs) :=
 ya (K:=K) (CX:=fun _=>CX) (sp:=fun w=>sp (K w.params)) hn hn2 hdf hr hY F (fun w H a ns h1 h2 h3=>hsp (K w.params) H a ns h1 h2 h3) fun _ H s e s'=>hCX H s e s'
end L2
namespace L2
open PySem PySem.Spec PyProof.Rows
noncomputable def gK (s:Stmt):Arguments:=match s with
 | .FunctionDef _ a _ _ _ _ _ _ _ _=>a
 | _=>{ posonlyargs:=[],args:=[],vararg:=none,kwonlyargs:=[],kw_defaults:=[],kwarg:=none,defaults:=[] }
noncomputable def bU (s:Stmt):List Stmt:=match s with
 | .FunctionDef _ _ b _ _ _ _ _ _ _=>b
 | _=>[]
noncomputable def aa (s:Stmt):Scope:=match s with
 | .FunctionDef _ _ _ _ _ _ sc _ _ _=>sc
 | _=>{ kind:=.function,names:=[],isGenerator:=false,isCoroutine:=false }
abbrev CX0:CXT:=fun _ _ _ _ _ _=>False
abbrev E0:XK:=fun _ _ _=>False
theorem yf {X:Cx}:Passes CX0 X E0:=fun _ _ _ _ _ _ _ h=>h.elim
structure Fun (K:Fg) (x qual:Str) (st:Stmt) (f:Addr) (fd:FuncData):Prop where
 ex:∃ (oc:Value) (od:Option Addr) (kV doc pm:Value) (an:Option Addr) (cdv ct:Value) (osl:Array (Option Value)),
  fd=PySem.W.fnOf x qual (gK st) (bU st) (aa st) .none kV doc pm an cdv ct/\K.lookup f=some ⟨oc,od,.func fd,osl⟩/\PySem.W.codeIn K cdv qual=true
 kp:PySem.W.keepIn K (.ref f)=true
section
variable {P:Program} {w:World} {K:Fg} {mg:Str->Option Value} {base:Heap}
theorem Fun.ok {x qual:Str} {st:Stmt} {f:Addr} {fd:FuncData} {N ps:List Str} {k:Nat} {sp:Sp} (F:Fun K x qual st f fd) (S:ae N ps (aa st)) (len:∀ vs H Q E,sp vs H Q E->vs.length=ps.length)
  (hbody:∀ (cdv:Value) (A:Around) (outer:List Env) (s:Shared) (H:Hp) (vs:List V) (Q:VK) (E:XK),c6 k (A.deeper (envOfC qual (aa st) s.heap.objs.size f cdv))->sp vs H Q E ->
   ∃ t,PSs (uL CX0 P w K mg base N qual (aa st) f cdv A outer s H E).nox (bU st) t/\t { nx:=fun _ H'=>Q .non H',rt:=Q } (start N vs) H):aY P w K mg base CX0 (k+1) f fd ps sp:=by
 obtain ⟨oc,od,kV,doc,pm,an,cdv,ct,osl,rfl,lk,hcd⟩:=F.ex;refine Cm lk hcd S len fun A outer s H vs Q E hr hsp=>?_;obtain ⟨t,h,q⟩:=hbody cdv A outer s H vs Q E hr hsp;exact ⟨t,h.nox,q⟩
theorem Ap {x qual:Str} {st:Stmt} {f:Addr} {oc:Value} {od an:Option Addr} {osl:Array (Option Value)} {kV doc pm cdv ct:Value} (l:K.lookup f=some ⟨oc,od,.func (PySem.W.fnOf x qual (gK st) (bU st) (aa st) .none kV doc pm an cdv ct),osl⟩)
  (c:PySem.W.codeIn K cdv qual=true) (k:PySem.W.keepIn K (.ref f)=true):Fun K x qual st f (PySem.W.fnOf x qual (gK st) (bU st) (aa st) .none kV doc pm an cdv ct):=⟨⟨oc,od,kV,doc,pm,an,cdv,ct,osl,rfl,l,c⟩,k⟩
end
def ax (H H':Hp):Prop:=∀ b o,H b=some o->H' b=some o
theorem ax.refl (H:Hp):ax H H:=fun _ _ h=>h
theorem ax.trans {H H1 H2:Hp} (a:ax H H1) (b:ax H1 H2):ax H H2:=fun c o h=>b c o (a c o h)
theorem ax.free {H H':Hp} (e:ax H H') {l:Addr} (h:H' l=Option.none):H l=Option.none:=by
 cases q:H l with
 | none=>rfl
 | some o =>
  rw [e l o q] at h;cases h
noncomputable def lB (env:Env):List (Str×NameKind)->List (Str×Addr)->List (Str×Addr)
 | [],cs=>cs
 | (n,k) :: r,cs=>lB env r (if k==.free then (n,(env.cells.lookup n).getD 0) :: cs else cs)
theorem cw {env:Env}:∀ (ns:List (Str×NameKind)) (cs:List (Str×Addr)),(∀ y∈ns,y.2=.free->∃ c,env.cells.lookup y.1=some c) ->
  (forIn ns cs (fun (x:Str×NameKind) (r:List (Str×Addr))=>if (x.2==NameKind.free)=true then (cellOf env x.1>>=fun a=>pure (ForInStep.yield ((x.1,a) :: r)):Sem _) else pure (ForInStep.yield r)):Sem (List (Str×Addr)))=pure (lB env ns cs)
 | [],_,_=>rfl
 | (n,k) :: r,cs,h=>by
  rw [List.forIn_cons];by_cases hk:k=.free
  ·subst hk;obtain ⟨c,e⟩:=h (n,.free) Hu rfl;have e':env.cells.lookup n=some c:=e;have q:=cw (env:=env) r ((n,c) :: cs) fun y hy=>h y (Hm _ hy);have z:lB env ((n,NameKind.free) :: r) cs=lB env r ((n,c) :: cs):=by
    show lB env r (if (NameKind.free==NameKind.free)=true then (n,(env.cells.lookup n).getD 0) :: cs else cs)=_;rw [Ht (by decide),e'];rfl
   have k:cellOf env n=pure c:=by
    unfold cellOf;rw [e']
   rw [z,<-q];dsimp only;rw [Ht (by decide),k];rfl
  ·have hb:(k==NameKind.free)=false:=by simpa using hk
   have q:=cw (env:=env) r cs fun y hy=>h y (Hm _ hy);have z:lB env ((n,k) :: r) cs=lB env r cs:=by
    show lB env r (if (k==NameKind.free)=true then (n,(env.cells.lookup n).getD 0) :: cs else cs)=_;rw [hb,Hv HQ]
   rw [z,<-q];dsimp only;rw [hb,Hv HQ];rfl
theorem iX {scope:Scope} {env:Env} (h:∀ y∈scope.names,y.2=.free->∃ c,env.cells.lookup y.1=some c):closureFor scope env=pure (lB env scope.names []):=by
 have q:=cw (env:=env) scope.names [] h;unfold closureFor;show (forIn scope.names [] _>>=_:Sem _)=_;refine Eq.trans (congrArg (fun m:Sem (List (Str×Addr))=>m>>=fun r=>pure r) (Eq.trans ?_ q)) rfl;rfl
theorem nC {env:Env}:∀ (ns:List (Str×NameKind)) (cs:List (Str×Addr)),(∀ y∈ns,y.2=.free->∃ c,env.cells.lookup y.1=some c)->(∀ y c,cs.lookup y=some c->env.cells.lookup y=some c) ->
  ∀ y c,(lB env ns cs).lookup y=some c->env.cells.lookup y=some c
 | [],_,_,g,y,c,e=>g y c e
 | (n,k) :: r,cs,h,g,y,c,e=>by
  refine nC r _ (fun z hz=>h z (Hm _ hz)) (fun z d e'=>?_) y c e;by_cases hk:(k==NameKind.free)=true
  ·rw [Ht hk] at e';rw [Jv] at e';obtain ⟨c',ec⟩:=h (n,k) Hu (by simpa using hk);have ec':env.cells.lookup n=some c':=ec;cases hz:z==n with
   | true =>
    rw [hz] at e';have hzn:z=n:=by simpa using hz
    subst hzn;rw [ec'] at e' ⊢;exact e'
   | false=>rw [hz] at e';exact g z d e'
  ·rw [Hv hk] at e';exact g z d e'
theorem lx {env:Env} {y:Str}:∀ (ns:List (Str×NameKind)) (cs:List (Str×Addr)),(∃ c,cs.lookup y=some c)->∃ c,(lB env ns cs).lookup y=some c
 | [],_,h=>h
 | (n,k) :: r,cs,h=>by
  refine lx r _ ?_;by_cases hk:(k==NameKind.free)=true
  ·rw [Ht hk,Jv];cases y==n
   ·exact h
   ·exact ⟨_,rfl⟩
  ·rw [Hv hk];exact h
theorem fT {env:Env} {y:Str}:∀ (ns:List (Str×NameKind)) (cs:List (Str×Addr)),(y,NameKind.free)∈ns->∃ c,(lB env ns cs).lookup y=some c
 | [],_,h=>by simp at h
 | (n,k) :: r,cs,h=>by
  rcases Hz.mp h with e | h
  ·cases e;show ∃ c,(lB env r (if (NameKind.free==NameKind.free)=true then (y,(env.cells.lookup y).getD 0) :: cs else cs)).lookup y=some c;refine lx r _ ⟨(env.cells.lookup y).getD 0,?_⟩;rw [Ht (by decide),Jv,Iu]
  ·exact fT r _ h
theorem bC {env:Env} {y:Str} {k:NameKind}:∀ (ns:List (Str×NameKind)),
  (ns.map fun (n,k)=>if (k==NameKind.free&&env.scope.kind==.function&&env.kindOf n==some .cell) then (n,NameKind.cell) else (n,k)).lookup y=some k->(y,k)∈ns\/(k=.cell/\(y,NameKind.free)∈ns)
 | [],h=>by simp at h
 | (n,k') :: r,h=>by
  have ih:=fun q=>bC (env:=env) (y:=y) (k:=k) r q;rw [List.map_cons] at h;have h2:=h;have again:=fun q=>(ih q).elim (fun q=>Or.inl (Hm (n,k') q)) fun q=>(Or.inr ⟨q.1,Hm (n,k') q.2⟩:(y,k)∈(n,k') :: r\/(k=.cell/\(y,NameKind.free)∈(n,k') :: r));dsimp only at h2;clear h;by_cases hc:(k'==NameKind.free&&env.scope.kind==.function&&env.kindOf n==some .cell)=true
  ·rw [Ht hc,Jv] at h2;cases hy:y==n with
   | true =>
    rw [hy] at h2;have e1:y=n:=by simpa using hy
    have hk:k'=.free:=by
     have:=hc;simp at this;exact this.1.1
    have e2:k=.cell:=(HU h2).symm;exact .inr ⟨e2,by rw [e1,hk];exact Hu⟩
   | false=>rw [hy] at h2;exact again h2
  ·rw [Hv hc,Jv] at h2;cases hy:y==n with
   | true =>
    rw [hy] at h2;have e1:y=n:=by simpa using hy
    have e2:k'=k:=HU h2;exact .inl (by rw [e1,e2];exact Hu)
   | false=>rw [hy] at h2;exact again h2
noncomputable def cxB (X:Cx) (N':List Str) (scope:Scope) (C:Addr) (s3:Shared) (H3:Hp) (ex:List Addr):Cx :=
  { prog:=X.prog,w:=X.w,K:=X.K,mg:=X.mg,base:=X.base,A:=X.A,N:=N',s₀:=s3,H₀:=H3,env:=compEnvC scope (lB X.env scope.names []) C X.env,outer:=X.stack,stack:=X.stack,ex:=ex,
    fn:=fun _=>false,calm:=true,pn:=[],xe:=fun _ _=>False }
def d8 (X:Cx) (scope:Scope):List Str->List Nat->Prop
 | [],[]=>True
 | y :: ys,j :: js=>X.N[j]?=some y/\(X.env.scope.names.lookup y=some .cell/\scope.names.lookup y=some .free)/\d8 X scope ys js
 | _,_=>False
theorem d8.get {X:Cx} {scope:Scope}:∀ {ys:List Str} {js:List Nat} {k:Nat} {y:Str},d8 X scope ys js->ys[k]?=some y->∃ j,js[k]?=some j/\X.N[j]?=some y/\X.env.scope.names.lookup y=some .cell/\scope.names.lookup y=some .free
 | [],_,_,_,_,e=>by simp at e
 | _ :: _,[],_,_,h,_=>False.elim h
 | y :: ys,j :: js,0,z,h,e=>by simp at e;subst e;exact ⟨j,rfl,h.1,h.2.1⟩
 | y :: ys,j :: js,k+1,z,h,e=>by
  obtain ⟨j',e1,e2⟩:=d8.get (k:=k) h.2.2 (by simpa using e);exact ⟨j',by simpa using e1,e2⟩
theorem d8.len {X:Cx} {scope:Scope}:∀ {ys:List Str} {js:List Nat},d8 X scope ys js->ys.length=js.length
 | [],[],_=>rfl
 | _ :: _,_ :: _,h=>by simp [d8.len h.2.2]
 | [],_ :: _,h=>False.elim h
 | _ :: _,[],h=>False.elim h
noncomputable def aT (js:List Nat) (σ:St):St:=js.map fun j=>(σ[j]?).getD none
structure fj (X:Cx) (scope:Scope) (x:Str):Prop where
 kind:scope.kind=.function
 cells:∀ y∈scope.names,y.2≠.cell
 locs:∀ y∈scope.names,y.2=.local->scope.names.lookup y.1=some .local
 var:scope.names.lookup x=some .local
 free:∀ y∈scope.names,y.2=.free->X.env.scope.names.lookup y.1=some .cell
def PTs (X:Cx) (ifs:List Expr) (t:TT):Prop :=
 ∀ (pins:List (Addr×Obj)) (s:Shared) (σ:St) (H:Hp) (Q:Bool->Hp->Prop),Inv X pins σ H s->t σ H Q ->
  wpAny (model X.prog X.w) X.A (forIn ifs true fun c r=>if r=true then do let ok<-isTrue c X.env (eval c X.env);pure (ForInStep.yield ok) else pure (ForInStep.yield r)) (TP X pins σ Q) X.xe s
def Cu:TT:=fun _ H Q=>Q true H
theorem xa {X:Cx}:PTs X [] Cu:=fun _ _ _ H _ I h=>wpAny_tests_nil ⟨H,I,h⟩
theorem vZ {X:Cx} {c:Expr} {t:TT} (h:PT X c t):PTs X [c] t:=fun pins s σ H Q I q=>wpAny_tests_one (h pins s σ H Q I q)
theorem qP {X:Cx} {pins:List (Addr×Obj)} {σ:St} {H:Hp} {s3:Shared} {h1:Heap} {tk:Nat} {scope:Scope} {x:Str} {ys:List Str} {js:List Nat} {ex:List Addr} (I:Inv X pins σ H s3) (hc:X.calm=true) (B:fj X scope x) (cap:d8 X scope ys js)
  (hns:h1.Ns s3.heap.objs.size (fun _=>none)) (hk:∀ b o,s3.heap.get? b=some o->h1.get? b=some o)
  (hex:∀ b∈ex,b ∉ frs X.stack/\b < s3.heap.objs.size/\(∀ y c,X.env.cells.lookup y=some c->c≠b)/\X.base.get? b=none) :
  Inv (cxB X (x :: ys) scope s3.heap.objs.size s3 H ex) [] (none :: aT js σ) H { s3 with heap:=h1,toks:=tk }:=by
 have hfree:∀ y∈scope.names,y.2=.free->∃ c,X.env.cells.lookup y.1=some c:=fun y hy hf=>I.ok.has y.1 (.inl (B.free y hy hf));have sub:=nC (env:=X.env) scope.names [] hfree (fun _ _ e=>by simp at e)
 refine ⟨⟨I.ok.mod,B.kind,I.ok.glob,I.ok.blt,Hl _,fun y z c h1 h2=>I.ok.inj y z c (sub _ _ h1) (sub _ _ h2),fun y hy=>?_,fun y c hf _=>?_,fun _=>I.ok.hd hc,I.ok.frames,.inl rfl,fun b hb=>?_,fun b o e=>I.bs b o e,HJ I.ok.bsz I.sz,fun b o e hb=>?_,fun b hb=>(hex b hb).1,I.stack,I.sg⟩,
  rfl,I.bare,Un.kept hk,⟨_,hns,fun i y v e1 e2 e3=>?_⟩,fun y c e=>?_,I.hok.fresh (Hl _),fun y c e=>I.fB y c (sub _ _ e),fun p hp=>absurd (show p∈([]:List (Addr×Obj)) from hp) (by simp),I.hok.kept hk,?_⟩
 ·have hy:(relabel scope X.env).names.lookup y=some .cell\/(relabel scope X.env).names.lookup y=some .free:=hy;rcases hy with hy | hy
  ·rcases bC _ hy with q | ⟨_,q⟩
   ·exact absurd rfl (B.cells _ q)
   ·exact fT _ _ q
  ·rcases bC _ hy with q | ⟨q,_⟩
   ·exact fT _ _ q
   ·cases q
 ·exact absurd (show false=true from hf) (by simp)
 ·exact ⟨HI (hex b hb).2.1,fun y c e=>(hex b hb).2.2.1 y c (sub _ _ e)⟩
 ·have e':X.base.get? b=some o:=e;have:=(hex b hb).2.2.2;rw [e'] at this;cases this
 ·cases i with
  | zero=>simp at e2
  | succ i =>
   have e1':ys[i]?=some y:=by simpa [cxB] using e1
   have e2':(aT js σ)[i]?=some (some v):=by simpa using e2
   obtain ⟨j,ej,en,ec,ef⟩:=cap.get e1';have e4:σ[j]?=some (some v):=by
    unfold aT at e2';rw [Hi,ej] at e2';simp only [JH,Option.some.injEq] at e2';cases q:σ[j]? with
    | none=>rw [q] at e2';cases e2'
    | some w=>rw [q] at e2';simp at e2';rw [e2']
   obtain ⟨m,hn,hl⟩:=I.loc;obtain ⟨u,r,l⟩:=hl j y v en e4 (.inr (.inl ec));refine ⟨u,r,.inr ?_⟩;rcases l with ⟨kl,_⟩ | ⟨kc,c,ecl,cell⟩
   ·have kl:X.env.scope.names.lookup y=some .local:=kl;rw [ec] at kl;cases kl
   ·have e3:(relabel scope X.env).names.lookup y=some .local\/(relabel scope X.env).names.lookup y=some .cell\/(relabel scope X.env).names.lookup y=some .free:=e3;refine ⟨?_,?_⟩
    ·rcases e3 with q | q | q
     ·rcases bC _ q with q | ⟨q,_⟩
      ·have:=B.locs _ q rfl;rw [ef] at this;cases this
      ·cases q
     ·exact .inl q
     ·exact .inr q
    ·have mem:(y,NameKind.free)∈scope.names:=IL ef;obtain ⟨c',ec'⟩:=fT (env:=X.env) scope.names [] mem;have:=sub _ _ ec';rw [ecl] at this;cases this;obtain ⟨o,ho,hd⟩:=cell;exact ⟨c,ec',o,hk _ _ ho,hd⟩
 ·obtain ⟨v,o,ho,hd⟩:=I.cell y c (sub _ _ e);exact ⟨v,o,hk _ _ ho,hd⟩
 ·show (none :: aT js σ).length=(x :: ys).length;rw [Hx,Hx,cap.len];unfold aT;rw [Hb]
def oN (js:List Nat) (wi:TI) (tt:TT) (te:TE):TE:=fun σ H Q=>wi σ H fun J H1=>∃ W:Nat->Nat->List V->Hp->Prop,(∃ m,W 0 m [] H1)/\∀ i m acc H,W i m acc H ->
 (J.stop i H/\acc.length<=sizeLine/\∀ p,H p=none->Q (.ref p) (upd H p (.lst acc)))\/(J.go i H/\acc.length < sizeLine/\∀ x H',J.yld i H x H' ->
  tt (some x :: aT js σ) H' fun b H2=>if b=true then te (some x :: aT js σ) H2 fun y H3=>∃ m',m' < m/\W (i+1) m' (acc++[y]) H3 else ∃ m',m' < m/\W (i+1) m' acc H2)
theorem uw {M:Model} {A:Around} {α β:Type} {E E':Value->Shared->Prop} {a:α} {t:Sem α} {u:Sem β} {Q:α->Shared->Prop} {R:β->Shared->Prop} {s s':Shared} (e:t=pure a) (h:wpAny M A t Q E s) (k:Q a s->wpAny M A u R E' s'):wpAny M A u R E' s':=by
 subst e;exact fun Γ p hΓ=>k (h Γ p hΓ) Γ p hΓ
theorem nS {X:Cx} {pins:List (Addr×Obj)} {σ:St} {H:Hp} {s2:Shared} {elt iter:Expr} {x:Str} {px pos:Pos} {ifs:List Expr} {scope:Scope} {tt:TT} {te:TE} {ys:List Str} {js:List Nat} {it:Addr} {fp:List Addr} {tn:Nat->Heap->Prop} {J:It}
    {Q:VK} {E:Value->Shared->Prop} {RR:Value->Addr->Result->Shared->Prop} (hc:X.calm=true) (B:fj X scope x) (nd:(x :: ys).Nodup) (cap:d8 X scope ys js)
    (ht:∀ C s3 H3 ex,PTs (cxB X (x :: ys) scope C s3 H3 ex) ifs tt) (he:∀ C s3 H3 ex,PE (cxB X (x :: ys) scope C s3 H3 ex) elt te)
    (I:Inv X pins σ H s2) (T:Turn X.prog X.w X.K (.Name x px) J fp it tn) (h0:tn 0 s2.heap) (hf:∀ b∈fp,tW X pins H b)
    (W:Nat->Nat->List V->Hp->Prop) (w0:∃ m,W 0 m [] H)
    (turn:∀ i m acc H,W i m acc H->(J.stop i H/\acc.length<=sizeLine/\∀ p,H p=none->Q (.ref p) (upd H p (.lst acc)))\/(J.go i H/\acc.length < sizeLine/\∀ x H',J.yld i H x H' ->
      tt (some x :: aT js σ) H' fun b H2=>if b=true then te (some x :: aT js σ) H2 fun y H3=>∃ m',m' < m/\W (i+1) m' (acc++[y]) H3 else ∃ m',m' < m/\W (i+1) m' acc H2))
    (hRR:∀ (D C:Addr) (H':Hp) (s':Shared) (m':Str->Option Value),s'.heap.Ns C m'->s2.heap.objs.size<=C->C≠D->H' C=none->Inv X pins σ H' s'->Q (.ref D) H'->RR (.ref D) C (.ok .next) s') :
    wpAny (model X.prog X.w) X.A (newList []) (fun acc s₃=>wpAny (model X.prog X.w) X.A (newFunctionEnv scope X.env.globals (lB X.env scope.names []) [] X.env.qual none .none (some X.env)) (fun cenv s₄ =>
      codeAny (model X.prog X.w) X.A (.compStart (.ListComp elt [⟨.Name x px,iter,ifs,0⟩] scope pos) 0 (.ref it) acc { cenv with scope:=relabel scope X.env }) (RR acc cenv.locals) s₄) E s₃) E s2:=by
  refine Ip (wpAny_newFunctionEnv B.cells (by intro y hy;simp at hy) (fun h1 hns hsb=>?_) B.kind);dsimp only at hns hsb ⊢;have hD:H s2.heap.objs.size=none:=I.hok.fresh (Hl _);generalize hH2:s2.heap.push { cls:=.type "list", dict:=none,data:=.seq ([]:List Value).toArray }=P2 at hns hsb ⊢;have hgetD:P2.get? s2.heap.objs.size=some { cls:=.type "list", dict:=none,data:=.seq ([]:List Value).toArray }:=by rw [<- hH2];exact HC _ rfl
  have hold:∀ b o,s2.heap.get? b=some o->P2.get? b=some o:=fun b o e=>by rw [<- hH2];exact Hg _ e
  have hsz:P2.objs.size=s2.heap.objs.size+1:=by rw [<- hH2,Heap.size_push]
  have I3:Inv X pins σ H { s2 with heap:=P2,toks:=s2.toks }:=I.kept hold;generalize hDe:s2.heap.objs.size=D at *;have keep1:∀ b o,P2.get? b=some o->h1.get? b=some o:=fun b o e=>hsb.extBut b o (HI (Hw e)) (Hg _ e);have hfp:∀ b∈fp,b < D:=fun b hb=>by
    obtain ⟨o,e,_⟩:=T.obj _ _ h0 b hb;rw [<- hDe];exact Hw e
  have hstk:∀ b,b≠X.env.locals->b ∉ X.fs->b ∉ frs X.stack:=fun b h1 h2 z=>(Hz.mp (I.qe b z)).elim h1 h2;have hDl:D≠X.env.locals:=fun z=>absurd I.lt (by rw [hDe,z];exact HW _);have hDfs:D ∉ X.fs:=I.AZ (by rw [hDe];exact Hl _);have hDc:∀ y c,X.env.cells.lookup y=some c->c≠D:=fun y c e z=>by
    obtain ⟨v,q⟩:=I.cell y c e;have:=q.lt;rw [z,hDe] at this;exact absurd this (HW _)
  have hex:∀ b∈D :: fp,b ∉ frs X.stack/\b < ({ s2 with heap:=P2,toks:=s2.toks }:Shared).heap.objs.size/\(∀ y c,X.env.cells.lookup y=some c->c≠b)/\X.base.get? b=none:=fun b hb=>by
    rcases Hz.mp hb with rfl | hb
    · refine ⟨hstk _ hDl hDfs,by show _ < P2.objs.size;rw [hsz];exact Ju _,hDc,?_⟩;cases q:X.base.get? b with
      | none=>rfl
      | some o =>
        have:=Hw (I.bk b o q);rw [hDe] at this;exact absurd this (HW _)
    · obtain ⟨f0,f1,f2,f3,f4,f5⟩:=hf b hb;refine ⟨hstk _ f1 f2,by show _ < P2.objs.size;rw [hsz];exact Nat.lt_succ_of_lt (hfp b hb),f4,?_⟩;cases q:X.base.get? b with
      | none=>rfl
      | some o =>
        rcases f3 with z | z
        · exact absurd z (I.ok.wR b o q)
        · exact absurd (Hy (Hw q) (HJ I.ok.bsz z)) (HW _)
  have IB:=qP (tk:=s2.toks) (ex:=D :: fp) I3 hc B cap (h1:=h1) hns keep1 hex;have hCD:P2.objs.size≠D:=by rw [hsz];exact Nat.succ_ne_self _
  have start:codeAny (model X.prog X.w) X.A (.compLoop (.ListComp elt [⟨.Name x px,iter,ifs,0⟩] scope pos) 0 (.ref it) (.ref D) (compEnvC scope (lB X.env scope.names []) P2.objs.size X.env)) (RR (.ref D) P2.objs.size) { s2 with heap:=h1,toks:=s2.toks }:=by
    obtain ⟨m0,w0⟩:=w0;refine codeAny_compLoop_tests (fun n s=>∃ i v0 H' acc its k,Inv (cxB X (x :: ys) scope P2.objs.size { s2 with heap:=P2,toks:=s2.toks } H (D :: fp)) [] (v0 :: aT js σ) H' s/\tn i s.heap/\(∀ b∈D :: fp,H' b=none)/\s.heap.get? D=some { cls:=.type "list", data:=.seq its k }/\Vals acc its.toList/\acc.length<=sizeLine/\W i n acc H') ?_ m0 ?_
    · rintro n s ⟨i,v0,H3,acc,its,k,I4,t4,fr4,g4,va,hl4,w4⟩;have hDm:D∈D :: fp:=Hu;have exf:=I4.ok.exf;have fsub:∀ b∈D :: fp,b ∉ (cxB X (x :: ys) scope P2.objs.size { s2 with heap:=P2,toks:=s2.toks } H (D :: fp)).fs:=fun b hb=>(hex b hb).1;have stat:∀ {H':Hp} {ob:Obj},(∀ b∈fp,H' b=none)->∀ b∈fp,tW (cxB X (x :: ys) scope P2.objs.size { s2 with heap:=P2,toks:=s2.toks } H (D :: fp)) [(D,ob)] H' b:=fun {H' ob} hn b hb =>
        ⟨hn b hb,(exf b (Hm _ hb)).1,fsub b (Hm _ hb),.inl (Hm _ hb),(exf b (Hm _ hb)).2,fun p hp z=>by
          have hp':p∈[(D,ob)]:=hp;have e:=Hj.mp hp';rw [e] at z
          exact absurd (hfp b hb) (by rw [<- show D=b from z];exact HW _)⟩
      have frp:∀ b∈fp,H3 b=none:=fun b hb=>fr4 b (Hm _ hb);have I5:Inv (cxB X (x :: ys) scope P2.objs.size { s2 with heap:=P2,toks:=s2.toks } H (D :: fp)) [(D,{ cls:=.type "list", data:=.seq its k })] (v0 :: aT js σ) H3 s:=I4.bZ fun p hp=>by
        rw [Hj.mp hp];exact ⟨g4,fr4 D hDm,(exf D hDm).1,fsub D hDm,fun v z=>nomatch z⟩
      rcases turn i n acc H3 w4 with ⟨stop,hacc,q⟩ | ⟨go,hacc,step⟩
      · refine HP (T.done (cxB X (x :: ys) scope P2.objs.size { s2 with heap:=P2,toks:=s2.toks } H (D :: fp)) rfl rfl rfl rfl i _ s _ H3 (fun _ _=>False) I5 (stat frp) t4 stop) (fun r s1 ⟨hr,I6⟩=>?_) (fun _ _ z=>z.elim);subst hr;obtain ⟨m',hn',_⟩:=id I6.loc;have pD:=(I6.pin (D,{ cls:=.type "list", data:=.seq its k }) (Hn _ (Hj.mpr rfl))).1;have nD:H3 D=none:=fr4 D hDm;have u:=I6.base;have uu:Un (frs X.stack) (D :: fp) H (upd H3 D (.lst acc)) P2 s1.heap :=
          ⟨u.keep,u.slot,fun b o q n hx=>by rw [af fun z=>hx (by rw [z];exact hDm)];exact u.free b o q n hx,u.there,
           fun b xs q=>by rw [af (az (u.sV b xs q) nD)];exact u.sV b xs q,fun b o v q=>by rw [af (az (u.pG b o v q) nD)];exact u.pG b o v q,
           fun b ps q=>by
            obtain ⟨more,z⟩:=u.tU b ps q
            exact ⟨more,by rw [af (az z nD)];exact z⟩⟩
        have hok:HOk X.prog X.w (upd H3 D (.lst acc)) s1.heap:=fun b o e=>by
          by_cases hb:b=D
          · subst hb;rw [ah] at e;cases e;exact ⟨hacc,its.toList,k,va,by rw [Array.toArray_toList];exact pD⟩
          · rw [af hb] at e;exact (I6.hok b o e).kO (fun c v _ q=>q) (fun c q=>by rw [af (az q nD)];exact q) fun c xs q=>by rw [af (az q nD)];exact q
        have fin:=I3.call (g':=s1.gens) (t':=s1.toks) (d':=s1.drawn) uu hok I6.bare (fun b hb=>by
          rcases Hz.mp hb with z | hb
          · rw [z];refine ⟨.inr (by rw [<- hDe];exact I.sz),hDl,hDc,fun p hp z=>?_⟩;have:=Hw (I.pin p hp).1;rw [z,hDe] at this;exact HW _ this
          · exact ⟨(hf b hb).2.2.2.1,(hf b hb).2.1,(hf b hb).2.2.2.2.1,(hf b hb).2.2.2.2.2⟩)
        have es:({ heap:=s1.heap,gens:=s1.gens,drawn:=s1.drawn,toks:=s1.toks,os:=s2.os }:Shared)=s1:=by
          have:=I6.os;obtain ⟨a1,a2,a3,a4,a5⟩:=s1;have e5:a5=s2.os:=this;rw [e5]
        have fin':Inv X pins σ (upd H3 D (.lst acc)) s1:=es▸fin;exact hRR D P2.objs.size (upd H3 D (.lst acc)) s1 m' hn' (by rw [hsz];exact Nat.le_succ _) hCD (by rw [af hCD];exact I6.free) fin' (q D nD)
      · refine HP (T.item (cxB X (x :: ys) scope P2.objs.size { s2 with heap:=P2,toks:=s2.toks } H (D :: fp)) rfl rfl rfl rfl i _ s _ H3 (fun _ _=>False) I5 (stat frp) t4 go) (fun r s1 ⟨u,hr,h4⟩=>?_) (fun _ _ z=>z.elim);subst hr;refine uw (a:=()) rfl h4 fun ⟨x',H5,I6,r6,y6,t6,fr6⟩=>?_;have I7:=I6.pinned (stat fr6) (T.obj _ _ t6);have kx:(relabel scope X.env).names.lookup x=some .local:=lookup_relabel_local B.var;have pg:PG (cxB X (x :: ys) scope P2.objs.size { s2 with heap:=P2,toks:=s2.toks } H (D :: fp)) (.Name x px) (cX 0):=jN nd rfl (.inl kx) (.inr kx);refine HP (pg _ s1 _ H5 x' u (fun σ' H'=>σ'=some x' :: aT js σ/\H'=H5) I7 r6 ⟨rfl,rfl⟩) (fun _ s2' ⟨σ6,H6,I8,e1,e2⟩=>?_) (fun _ _ z=>z.elim);subst e1 e2;refine HP (ht _ _ _ _ _ s2' _ _ _ I8 (step x' H6 y6)) (fun b s3' ⟨H7,I9,q9⟩=>?_) (fun _ _ z=>z.elim);have pinsKeep:∀ {σ':St} {H':Hp} {s':Shared},Inv (cxB X (x :: ys) scope P2.objs.size { s2 with heap:=P2,toks:=s2.toks } H (D :: fp)) ([(D,{ cls:=.type "list", data:=.seq its k })]++kB fp s1.heap) σ' H' s' ->
            s'.heap.get? D=some { cls:=.type "list", data:=.seq its k }/\(∀ b∈D :: fp,H' b=none)/\∀ b∈fp,∀ o,s1.heap.get? b=some o->s'.heap.get? b=some o:=fun {σ' H' s'} J=>by
          have pd:=J.pin (D,{ cls:=.type "list", data:=.seq its k }) (Hn _ (HY _ (Hj.mpr rfl)));refine ⟨pd.1,fun b hb=>?_,fun b hb o e=>(J.pin (b,o) (Hn _ (Hn _ (cU hb e)))).1⟩;rcases Hz.mp hb with rfl | hb
          · exact pd.2.1
          · obtain ⟨o,e,_⟩:=T.obj _ _ t6 b hb;exact (J.pin (b,o) (Hn _ (Hn _ (cU hb e)))).2.1
        cases b with
        | false =>
          rw [Hv HQ] at q9;obtain ⟨m',hm,w9⟩:=q9;obtain ⟨p1,p2,p3⟩:=pinsKeep I9;rw [Hv HQ];exact ⟨m',hm,i+1,some x',H7,acc,its,k,I9.bZ (fun p hp=>absurd hp (by simp)),T.keep _ _ _ t6 p3,p2,p1,va,hl4,w9⟩
        | true =>
          rw [Ht rfl] at q9;rw [Ht rfl];refine HP (he _ _ _ _ _ s3' _ _ _ I9 q9) (fun y s4' ⟨yv,H8,I10,ry,m',hm,w10⟩=>?_) (fun _ _ z=>z.elim);obtain ⟨p1,p2,p3⟩:=pinsKeep I10;have hsize:its.size=acc.length:=by rw [va.length];simp
          have I11:=I10.bZ (pins':=[]) (fun p hp=>absurd hp (by simp));refine wpAny_list_append_plain ⟨k,p1⟩ (fun h' hpl hsame=>?_) (by rw [hsize];exact Jy hacc);obtain ⟨k',e'⟩:=hpl;have neD:∀ {b:Addr} {o:HO},H8 b=some o->b≠D:=fun e z=>by rw [z,p2 D hDm] at e;cases e
          refine ⟨m',hm,i+1,some x',H8,acc++[yv],its.push y,k',?_,?_,p2,e',?_,?_,w10⟩
          · refine I11.step (g':=s4'.gens) (t':=s4'.toks) (d':=s4'.drawn) (ch:=[D]) (fun b hb=>?_) (fun b o _ _ hc' e _=>?_) (fun b o _ _ hc' e _=>⟨o.slots,?_⟩) (fun b o hc' e n=>n) (fun b o hc' e=>⟨o,?_⟩) (fun _ _ z=>z) (fun _ _ _ z=>z) (fun b ps z=>⟨#[],by rw [z];simp⟩) (fun m hn=>hn.sameBut hsame (Ne.symm (exf D hDm).1)) (fun b o e=>?_) I11.bare
            · rw [Hj.mp hb];exact ⟨.inl hDm,(exf D hDm).1,(exf D hDm).2,fun p hp=>absurd (show p∈([]:List (Addr×Obj)) from hp) (by simp)⟩
            · exact (hsame.2 b fun z=>hc' (Hj.mpr z)).trans e
            · exact (hsame.2 b fun z=>hc' (Hj.mpr z)).trans e
            · exact (hsame.2 b fun z=>hc' (Hj.mpr z)).trans e
            · refine (I11.hok b o e).kO (fun c v hc' q=>(hsame.2 c ?_).trans q) (fun _ q=>q) fun _ _ q=>q;rcases hc' with z | z
              · rw [z];exact neD e
              · exact neD z
          · refine T.keep _ _ _ t6 fun b hb o e=>(hsame.2 b ?_).trans (p3 b hb o e);exact HI (hfp b hb)
          · rw [Array.toList_push];exact va.append (.cons ry .nil)
          · rw [Hq,Ja];exact hacc
    · refine ⟨0,none,H,[],#[],_,IB,T.keep _ _ _ h0 (fun b hb o e=>keep1 b o (hold b o e)),fun b hb=>?_,keep1 _ _ hgetD,.nil,Ia _,w0⟩;rcases Hz.mp hb with rfl | hb
      · exact hD
      · exact (hf b hb).1
  exact codeAny_compStart_list start (T.self _ 0 _ _ _ (T.keep _ _ _ h0 (fun b hb o e=>keep1 b o (hold b o e))) start)
theorem ye {X:Cx} {elt iter:Expr} {x:Str} {px pos:Pos} {ifs:List Expr} {scope:Scope} {wi:TI} {tt:TT} {te:TE} {ys:List Str} {js:List Nat} (hc:X.calm=true) (hi:PI X (.Name x px) iter wi) (B:fj X scope x) (nd:(x :: ys).Nodup) (cap:d8 X scope ys js)
  (ht:∀ C s3 H3 ex,PTs (cxB X (x :: ys) scope C s3 H3 ex) ifs tt) (he:∀ C s3 H3 ex,PE (cxB X (x :: ys) scope C s3 H3 ex) elt te) (hs:∀ x,foldedSetIterable iter X.env x=pure x:=by intro _;rfl) :
  PE X (.ListComp elt [⟨.Name x px,iter,ifs,0⟩] scope pos) (oN js wi tt te):=by
 intro pins s σ H Q I h;have hcl:=iX (scope:=scope) (env:=X.env) fun y hy hf=>I.ok.has y.1 (.inl (B.free y hy hf));rw [eval_ListComp];refine wpAny_comprehension_free (use:=none) rfl hs hcl B.kind B.locs (HP (hi pins s σ H _ I h) (fun xv s1 h1=>HP h1 (fun itv s2 h2=>?_) fun _ _ e=>e) fun _ _ e=>e);obtain ⟨it,fp,tn,J,H2,e,I2,T,st2,f2,W,w0,turn⟩:=h2;subst e;refine nS (RR:=fun acc C=>compPost (model X.prog X.w) X.A X.xe none (EP X pins σ Q) acc C) hc B nd cap ht he I2 T st2 f2 W w0 turn ?_;intro D C H' s' m' hn hC hCD hCn I' q;refine ⟨m',hn,fun h' hs'=>⟨.ref D,H',?_,rfl,q⟩⟩;have hL:X.env.locals≠C:=HI (Hy I2.lt hC);have neC:∀ {b:Addr} {o:HO},H' b=some o->b≠C:=fun e z=>by rw [z,hCn] at e;cases e
 refine I'.step (g':=s'.gens) (t':=s'.toks) (d':=s'.drawn) (ch:=[C]) (fun b hb=>?_) (fun b o _ _ hc' e _=>?_) (fun b o _ _ hc' e _=>⟨o.slots,?_⟩) (fun b o hc' e n=>n) (fun b o hc' e=>⟨o,?_⟩) (fun _ _ z=>z) (fun _ _ _ z=>z) (fun b ps z=>⟨#[],by rw [z];simp⟩) (fun m hn=>hn.sameBut hs' hL) (fun b o e=>?_) I'.bare
 ·rw [Hj.mp hb];refine ⟨.inr (HJ I2.sz hC),Ne.symm hL,fun y c e z=>?_,fun p hp z=>?_⟩
  ·obtain ⟨v,q⟩:=I2.cell y c e;have:=q.lt;rw [z] at this;exact absurd (Hy this hC) (HW _)
  ·have:=Hw (I2.pin p hp).1;rw [z] at this;exact absurd (Hy this hC) (HW _)
 ·exact (hs'.2 b fun z=>hc' (Hj.mpr z)).trans e
 ·exact (hs'.2 b fun z=>hc' (Hj.mpr z)).trans e
 ·exact (hs'.2 b fun z=>hc' (Hj.mpr z)).trans e
 ·refine (I'.hok b o e).kO (fun c v hc' q=>(hs'.2 c ?_).trans q) (fun _ q=>q) fun _ _ q=>q;rcases hc' with z | z
  ·rw [z];exact neC e
  ·exact neC z
theorem xM {X:Cx} {elt iter:Expr} {x y:Str} {px py pos spos:Pos} {ifs:List Expr} {scope:Scope} {wi:TI} {tt:TT} {te:TE} {ys:List Str} {js:List Nat} {i:Nat} (hN:X.N.Nodup) (hi':X.N[i]?=some y) (hy:X.env.scope.names.lookup y=some .local)
  (hsw:swapsWith (.ListComp elt [⟨.Name x px,iter,ifs,0⟩] scope pos) (some (.Name y py)) spos.line X.env=pure true) (hc:X.calm=true) (hi:PI X (.Name x px) iter wi) (B:fj X scope x) (nd:(x :: ys).Nodup) (cap:d8 X scope ys js)
  (ht:∀ C s3 H3 ex,PTs (cxB X (x :: ys) scope C s3 H3 ex) ifs tt) (he:∀ C s3 H3 ex,PE (cxB X (x :: ys) scope C s3 H3 ex) elt te) (hs:∀ x,foldedSetIterable iter X.env x=pure x:=by intro _;rfl) :
  PS X (.Assign [.Name y py] (.ListComp elt [⟨.Name x px,iter,ifs,0⟩] scope pos) spos) (rK (oN js wi tt te) (cX i)):=by
 intro pins s σ H Dn I h;have hcl:=iX (scope:=scope) (env:=X.env) fun y hy hf=>I.ok.has y.1 (.inl (B.free y hy hf));rw [exec_Assign_Name_used _ _ _ _ hsw];refine Ha (wpAny_standAt (Ha ?_));show wpAny _ X.A (do let _<-comprehension (.ListComp elt [⟨.Name x px,iter,ifs,0⟩] scope pos) scope X.env _ (newList []) false (eval iter X.env) (some (assign (.Name y py) X.env))) _ _ s
 refine Ha (HP (wpAny_comprehension_free (use:=some (assign (.Name y py) X.env)) (Q:=fun _ s'=>SP X pins Dn .next s') rfl hs hcl B.kind B.locs
  (HP (hi pins s σ H _ I h) (fun xv s1 h1=>HP h1 (fun itv s2 h2=>?_) fun _ _ e=>e) fun _ _ e=>e)) (fun _ s' hq=>He (He hq)) fun _ _ e=>e)
 obtain ⟨it,fp,tn,J,H2,e,I2,T,st2,f2,W,w0,turn⟩:=h2;subst e;refine nS (Q:=fun x H1=>cX i x σ H1 Dn.nx) (RR:=fun acc C=>compPost (model X.prog X.w) X.A X.xe (some (assign (.Name y py) X.env)) (fun _ s'=>SP X pins Dn .next s') acc C) hc B nd cap ht he I2 T st2 f2 W w0 turn ?_;intro D C H' s' m' hn hC hCD hCn I' q;have hL:X.env.locals≠C:=HI (Hy I2.lt hC);have hCfs:C ∉ X.fs:=I2.AZ hC;obtain ⟨oC,esC,epC,hoC,hdC,restC⟩:=id hn;have I'':Inv X (pins++[(C,oC)]) σ H' s':=I'.bZ fun p hp=>by
  rcases HK.mp hp with z | z
  ·exact I'.pin p (Hn _ z)
  ·rw [Hj.mp z];exact ⟨hoC,hCn,Ne.symm hL,hCfs,fun v z=>by rw [hdC] at z;cases z⟩
 show wpAny _ X.A (assign (.Name y py) X.env (.ref D)) _ _ _;refine HP (jN (pos:=py) hN hi' (.inl hy) (.inr hy) _ s' σ H' (.ref D) (.ref D) Dn.nx I'' rfl q) (fun _ s3 ⟨σ3,H3,I3,q3⟩=>?_) fun _ _ e=>e;have pC:=I3.pin (C,oC) (Hn _ (Hn _ (Hj.mpr rfl)));have hn3:s3.heap.Ns C m':=⟨oC,esC,epC,pC.1,hdC,restC⟩;have hCn3:H3 C=none:=pC.2.1;refine ⟨m',hn3,fun h' hs'=>⟨σ3,H3,?_,q3⟩⟩;have I4:=I3.fK;have neC:∀ {b:Addr} {o:HO},H3 b=some o->b≠C:=fun e z=>by rw [z,hCn3] at e;cases e
 refine I4.step (g':=s3.gens) (t':=s3.toks) (d':=s3.drawn) (ch:=[C]) (fun b hb=>?_) (fun b o _ _ hc' e _=>?_) (fun b o _ _ hc' e _=>⟨o.slots,?_⟩) (fun b o hc' e n=>n) (fun b o hc' e=>⟨o,?_⟩) (fun _ _ z=>z) (fun _ _ _ z=>z) (fun b ps z=>⟨#[],by rw [z];simp⟩) (fun m hn=>hn.sameBut hs' hL) (fun b o e=>?_) I4.bare
 ·rw [Hj.mp hb];refine ⟨.inr (HJ I2.sz hC),Ne.symm hL,fun y c e z=>?_,fun p hp z=>?_⟩
  ·obtain ⟨v,q⟩:=I2.cell y c e;have:=q.lt;rw [z] at this;exact absurd (Hy this hC) (HW _)
  ·have:=Hw (I2.pin p hp).1;rw [z] at this;exact absurd (Hy this hC) (HW _)
 ·exact (hs'.2 b fun z=>hc' (Hj.mpr z)).trans e
 ·exact (hs'.2 b fun z=>hc' (Hj.mpr z)).trans e
 ·exact (hs'.2 b fun z=>hc' (Hj.mpr z)).trans e
 ·refine (I4.hok b o e).kO (fun c v hc' q=>(hs'.2 c ?_).trans q) (fun _ q=>q) fun _ _ q=>q;rcases hc' with z | z
  ·rw [z];exact neC e
  ·exact neC z
def Its (x:Str):It:=⟨fun i _=>i < x.length,fun i H v H'=>H'=H/\∃ c,x.cps[i]?=some c/\v=.str ⟨#[c]⟩,fun i _=>x.length<=i⟩
theorem tS {P:Program} {w:World} {K:Fg} {y:Str} {py:Pos} {x:Str} {it:Addr} {St:Nat->Heap->Prop} (W:∀ A':Around,A'.handled=none->Walks P w A' it [it] [it] x.cps.size (SignAt x) St)
  (ob:∀ i h,St i h->∃ o,h.get? it=some o/\∀ v,o.data≠.cell v) (hs:∀ (A:Around) i (s:Shared) (Q:Value->Shared->Prop) (E:Value->Shared->Prop),St i s.heap->Q (.ref it) s->wpAny (model P w) A (pyIter (.ref it)) Q E s) :
  Turn P w K (.Name y py) (Its x) [it] it (fun i h=>i<=x.cps.size/\St i h) where
 mem:=by simp
 obj:=fun i h st b hb=>by
  have e:b=it:=by simpa using hb
  subst e;exact ob i h st.2
 keep:=fun i h h' st k=>⟨st.1,(W { depth:=0,frames:=none,guards:=none,units:=0,handled:=none } rfl).frame i h h' st.2 fun b hb o e=>k b hb o e⟩
 item:=by
  intro X hP hw hK hc i pins s σ H E I hf st hg;subst hP hw hK;obtain ⟨f0,f1,f2,f3,f4,f5⟩:=hf it (by simp);refine (W X.A (I.ok.hd hc)).item i s _ _ hg st.2 fun v h' tk hv st' kk=>?_;obtain ⟨c,t,hcps,rfl⟩:=hv;have I1:Inv X pins σ H { s with heap:=h',toks:=tk }:=I.turned (fun b o hb e=>kk b o (by simpa using hb) e) f0 f1 f3 f4 f5;exact ⟨_,rfl,He (show _ from ⟨.str ⟨#[c]⟩,H,I1,⟨t,rfl⟩,⟨rfl,c,hcps,rfl⟩,⟨hg,st'⟩,fun b hb=>(hf b hb).1⟩)⟩
 done:=by
  intro X hP hw hK hc i pins s σ H E I hf st hg;subst hP hw hK;obtain ⟨f0,f1,f2,f3,f4,f5⟩:=hf it (by simp);have e:i=x.cps.size:=Nat.le_antisymm st.1 hg;subst e;exact (W X.A (I.ok.hd hc)).done s _ _ st.2 fun h' tk kk=>⟨rfl,I.turned (fun b o hb e=>kk b o (by simpa using hb) e) f0 f1 f3 f4 f5⟩
 self:=fun A i s Q E st h=>hs A i s Q E st.2 h
def D4 (tl:TE):TI:=fun σ H R=>tl σ H fun x H1=>∃ z,x=.str z/\R (Its z) H1
theorem Ax {X:Cx} {y:Str} {py:Pos} {l:Expr} {tl:TE} (hl:PE X l tl):PI X (.Name y py) l (D4 tl):=by
 intro pins s σ H R I h;refine thn (hl pins s σ H _ I h) fun v s1 ⟨x,H1,I1,r1,q1⟩=>?_;obtain ⟨z,e,q⟩:=q1;subst e;obtain ⟨t,rfl⟩:=r1;have hn:H1 s1.heap.objs.size=none:=I1.hok.fresh (Hl _);have key:∀ (T:String) (sz:T = "str_ascii_iterator" \/ T = "str_iterator"),PIE X pins σ (.Name y py) R (.ref s1.heap.objs.size) { s1 with heap:=s1.heap.push { cls:=.type T,data:=.fields #[.str z t,.int 0 0] } }:=fun T sz=>by
  have I2:Inv X pins σ H1 { s1 with heap:=s1.heap.push { cls:=.type T,data:=.fields #[.str z t,.int 0 0] },toks:=s1.toks }:=I1.kept fun b o e=>Hg _ e;have st0:(s1.heap.push { cls:=.type T,data:=.fields #[.str z t,.int 0 0] }).IsStrIter s1.heap.objs.size T z t 0:=⟨_,HC _ rfl,rfl,rfl⟩;refine ⟨s1.heap.objs.size,[s1.heap.objs.size],fun i h=>i<=z.cps.size/\h.IsStrIter s1.heap.objs.size T z t i,Its z,H1,rfl,I2,?_,⟨Ia _,st0⟩,fun b hb=>?_,q⟩
  ·refine tS (fun A' hA=>?_) (fun i h st=>?_) fun A i s Q E st hq=>?_
   ·rcases sz with rfl | rfl
    ·exact Walks.strAscii hA _ z t
    ·exact Walks.strWide hA _ z t
   ·obtain ⟨o,e,c,d⟩:=st;exact ⟨o,e,fun v z=>by rw [d] at z;cases z⟩
   ·rcases sz with rfl | rfl
    ·exact wpAny_pyIter_striter_ascii st hq
    ·exact wpAny_pyIter_striter_wide st hq
  ·rw [Hj.mp hb];exact I1.yK (Hl _) hn
 cases ha:z.cps.all (· < 128)
 ·exact wpAny_pyIter_wide ha (key _ (.inr rfl))
 ·exact wpAny_pyIter_ascii ha (key _ (.inl rfl))
section
variable {X:Cx}
theorem pR:OpR X (compareOp .LtE) (fun x y H Q=>∃ i j,x=.str i/\y=.str j/\Q (.bl (!(decide (j.cps.toList < i.cps.toList)))) H):=by
 intro pins s σ H x y v u Q I rx ry h;obtain ⟨i,j,rfl,rfl,q⟩:=h;obtain ⟨t,rfl⟩:=rx;obtain ⟨t',rfl⟩:=ry;exact P.le_str ⟨.bl _,H,I,rfl,q⟩
theorem OpR.or' {f:Value->Value->Sem Value} {r r':R2} (h:OpR X f r) (h':OpR X f r'):OpR X f (fun x y H Q=>r x y H Q\/r' x y H Q):=by
 intro pins s σ H x y v u Q I rx ry q;rcases q with q | q
 ·exact h pins s σ H x y v u Q I rx ry q
 ·exact h' pins s σ H x y v u Q I rx ry q
theorem tX:OpR X (binaryOp .FloorDiv) (rI (fun _ j=>0 < j/\j.natAbs.log2 < 9000) fun i j=>.int (i / j)):=opI fun i j _ _ _ _ _ hc q=>by
 have h1:(0:Int) < j:=hc.1;exact floordiv_int (by omega) (by rw [Int.fdiv_eq_ediv_of_nonneg i (by omega)];exact q) (.inl (PyProof.noPylong_of_log2 hc.2))
theorem pV (hc:X.calm=true):aS X (.builtin "all") (fun xs H Q=>∃ (a:Addr) (bs:List Bool),xs=[.ref a]/\SqL X.K H a (bs.map V.bl)/\Q (.bl (bs.all id)) H):=by
 intro pins s σ H xs us Q I r h;obtain ⟨a,bs,rfl,hq,q⟩:=h;obtain ⟨u,rfl,r1⟩:=vals1 r;cases (show u=Value.ref a from r1);obtain ⟨its,rv,p,hz⟩:=I.list hq;have ha:a < s.heap.objs.size:=by
  obtain ⟨o,e,_⟩:=p.isList;exact Hw e
 refine call_all_walk (wpAny_pyIter_list p.isList ?_);refine ⟨s.heap.objs.size,_,_,_,_,_,fun i=>(bs[i]?).getD true,rfl,Walks.list (show X.A.in1.handled=none from I.ok.hd hc) s.heap.objs.size a (HI ha) its.toArray,⟨⟨_,HC _ rfl,rfl,rfl⟩,p.isList.push _⟩,?_,?_⟩
 ·intro i v s' Q' E' hv hQ;have hv':its[i]?=some v:=by simpa using hv
  have hi:i < its.length:=(Hd.mp hv').1;have hb:i < bs.length:=by have:=rv.length;rw [Hb] at this;omega
  obtain ⟨u,hu,ru⟩:=rv.get (i:=i) (x:=.bl bs[i]) (by rw [Hi,Hc hb];rfl);rw [hv'] at hu;cases hu;cases (show v=Value.bool bs[i] from ru);dsimp only at hQ;rw [Hc hb] at hQ;exact HV hQ
 ·intro h' tk kk;have e:(List.range its.toArray.size).all (fun i=>(bs[i]?).getD true)=bs.all id:=by
   have hl:its.toArray.size=bs.length:=by rw [Hr,<-rv.length,Hb]
   rw [hl,Bool.eq_iff_iff,IE,IE];constructor
   ·intro h b hb;obtain ⟨i,hi,e⟩:=List.mem_iff_getElem.mp hb;have:=h i (List.mem_range.mpr hi);rw [Hc hi,e] at this;exact this
   ·intro h i hi;rw [Hc (List.mem_range.mp hi)];exact h _ (Iv _)
  rw [e];have I1:Inv X pins σ H { s with heap:=s.heap.push { cls:=.type "list_iterator", data:=.fields #[.ref a,rawInt 0] },toks:=s.toks }:=I.kept fun b o e=>Hg _ e;have hn:H s.heap.objs.size=none:=I.hok.fresh (Hl _)
  have I2:Inv X pins σ H { s with heap:=h',toks:=tk }:=I.kept fun b o e=>kk b o (by
   intro z;have:=Hj.mp z;rw [this] at e
   exact absurd (Hw e) (HW _)) (Hg _ e)
  exact ⟨.bl _,H,I2,rfl,q⟩
noncomputable def sN (x:Str) (lo hi:Option Int):Str:=⟨((x.cps.toList.drop (HT.sIx x.length 0 lo)).take (HT.sIx x.length x.length hi - HT.sIx x.length 0 lo)).toArray⟩
theorem D5 (lo hi:Option Int) (n:Nat):Builtin.Str.strSliceIndices lo hi 1 n=(List.range (HT.sIx n n hi - HT.sIx n 0 lo)).map (HT.sIx n 0 lo+·):=by
 rw [<- sliceRange_one];unfold Builtin.Str.strSliceIndices;dsimp only;have h1:(1:Int) > 0:=by decide
 have e0:(match lo with | none=>(if (1:Int) > 0 then 0 else (n:Int) - 1) | some i=>if (1:Int) > 0 then max 0 (min (if i < 0 then i+(n:Int) else i) (n:Int)) else max (-1) (min (if i < 0 then i+(n:Int) else i) ((n:Int) - 1)))=((HT.sIx n 0 lo:Nat):Int):=by
  cases lo with
  | none=>simp [HT.sIx]
  | some i =>
   simp only [HT.sIx,h1,Jg];by_cases h:i < 0
   ·simp only [h,Jg] <;> omega
   ·simp only [h,IG] <;> omega
 have e1:(match hi with | none=>(if (1:Int) > 0 then (n:Int) else -1) | some i=>if (1:Int) > 0 then max 0 (min (if i < 0 then i+(n:Int) else i) (n:Int)) else max (-1) (min (if i < 0 then i+(n:Int) else i) ((n:Int) - 1)))=((HT.sIx n n hi:Nat):Int):=by
  cases hi with
  | none=>simp [HT.sIx]
  | some i =>
   simp only [HT.sIx,h1,Jg];by_cases h:i < 0
   ·simp only [h,Jg] <;> omega
   ·simp only [h,IG] <;> omega
 rw [<- e0,<-e1];cases lo <;> cases hi <;> rfl
theorem mT (n:Nat) (v:Option Int):HT.sIx n n v<=n/\HT.sIx n 0 v<=n:=by
 cases v with
 | none=>simp [HT.sIx]
 | some i =>
  simp only [HT.sIx];split <;> omega
def Fd:V->Option Int->Option Int->Hp->VK->Prop:=fun x lo hi H Q=>∃ z,x=.str z/\z.length<=sizeLine/\Q (.str (sN z lo hi)) H
theorem gO (x:Str) (lo hi:Option Int):(sN x lo hi).length<=x.length:=by
 have e:x.cps.toList.length=x.length:=by simp [Str.length]
 show (((x.cps.toList.drop _).take _).toArray).size<=x.length;rw [Hr,IJ,Jw,e];omega
theorem kL:SlR X Fd:=by
 intro pins s σ H x v vl vu lo hi sl Q I rx hs pl pu h;obtain ⟨z,rfl,hz,q⟩:=h;obtain ⟨t,rfl⟩:=rx;refine ⟨"str", _,F.slot_str_getitem.lookup,typeIs_str _ _ _,?_⟩;obtain ⟨l,el,el'⟩:∃ l:Option (Int×Tok),l.map (·.1)=lo/\vl=partValue l:=by
  cases pl with
  | none=>exact ⟨none,rfl,rfl⟩
  | int i t=>exact ⟨some (i,t),rfl,rfl⟩
 obtain ⟨u,eu,eu'⟩:∃ l:Option (Int×Tok),l.map (·.1)=hi/\vu=partValue l:=by
  cases pu with
  | none=>exact ⟨none,rfl,rfl⟩
  | int i t=>exact ⟨some (i,t),rfl,rfl⟩
 subst el' eu';obtain ⟨o,h1,h2,h3⟩:=hs;refine wpAny_getItem_str_slice (l:=l) (u:=u) (st:=none) ⟨o,h1,h2,h3⟩ rfl ?_;have pk:slicePicked z l u none=(List.range (HT.sIx z.length z.length hi - HT.sIx z.length 0 lo)).map (HT.sIx z.length 0 lo+·):=by
  rw [<- D5,<-el,<-eu];rfl
 have ez:z.cps.toList.length=z.length:=by simp [Str.length]
 have cut:(⟨((slicePicked z l u none).filterMap (z.cps[·]?)).toArray⟩:Str)=sN z lo hi:=by
  rw [pk,pick_run];rfl
 unfold sliceMade;split
 ·rename_i hc;have hl:(slicePicked z l u none).length=z.length:=by
   have:=(Bool.and_eq_true_iff.mp hc).2;simpa using this
  rw [pk,Hb,Ie] at hl;have b1:=mT z.length hi;have b2:=mT z.length lo;have h0:HT.sIx z.length 0 lo=0\/z.length=0:=by omega
  have e:sN z lo hi=z:=by
   unfold sN;rcases h0 with h0 | h0
   ·rw [h0,List.drop_zero,Jz (by omega)]
   ·have hn:z.cps.toList=[]:=List.eq_nil_of_length_eq_zero (by omega);rw [hn];have:z.cps=#[]:=by
     have:=congrArg List.toArray hn;simpa using this
    obtain ⟨c⟩:=z;simp only at this;subst this;simp
  rw [e] at q;exact ⟨.str z,H,I,⟨t,rfl⟩,q⟩
 ·rw [cut];exact ⟨HJ (gO _ _ _) hz,⟨.str _,H,I.tok _,⟨_,rfl⟩,q⟩⟩
end
mutual
def Dn (p:Addr) (H:Hp):PyData->V->Prop
 | .none,v=>v=.non
 | .bool b,v=>v=.bl b
 | .int i,v=>v=.int i
 | .str x,v=>v=.str x
 | .list ds,v=>∃ a xs,v=.ref a/\a≠p/\H a=some (.lst xs)/\DnL p H ds xs
 | .tuple ds,v=>∃ a xs,v=.ref a/\a≠p/\H a=some (.tup xs)/\DnL p H ds xs
 | .dict kvs,v=>kvs=[]/\∃ a,v=.ref a/\a≠p/\H a=some (.dK [])
def DnL (p:Addr) (H:Hp):List PyData->List V->Prop
 | [],vs=>vs=[]
 | d :: ds,vs=>∃ v r,vs=v :: r/\Dn p H d v/\DnL p H ds r
end
open PySem PySem.Spec PyProof.Rows
def rOr (r r':R2):R2:=fun x y H Q=>r x y H Q\/r' x y H Q
def E4 (r r':V->Option Int->Option Int->Hp->VK->Prop):V->Option Int->Option Int->Hp->VK->Prop:=fun x l u H Q=>r x l u H Q\/r' x l u H Q
def y7:R2:=fun x y H Q=>∃ i j,x=.str i/\y=.str j/\i.length+j.length<=sizeLine/\Q (.str (i++j)) H
def Em:R2:=fun x y H Q=>∃ i j,x=.str i/\y=.str j/\Q (.bl (decide (i.cps.toList < j.cps.toList))) H
def FU:R2:=fun x y H Q=>∃ i j,x=.str i/\y=.str j/\Q (.bl (!(decide (j.cps.toList < i.cps.toList)))) H
def GO:R2:=fun x y H Q=>∃ i j,x=.str i/\y=.str j/\Q (.bl (!(Builtin.Str.occurrences j i 0 j.length 1).isEmpty)) H
def xO:R2:=fun x y H Q=>∃ i j,x=.str i/\y=.str j/\Q (.bl (!(!(Builtin.Str.occurrences j i 0 j.length 1).isEmpty))) H
def Fl (K:Fg):List V->Hp->VK->Prop:=fun xs H Q=>∃ (a:Addr) (bs:List Bool),xs=[.ref a]/\SqL K H a (bs.map V.bl)/\Q (.bl (bs.all id)) H
def y8 (K:Fg):List V->Hp->VK->Prop:=fun xs H Q=>∃ x n,xs=[x]/\Fq K x H n/\Q (.int n) H
def CI:List V->Hp->VK->Prop:=fun xs H Q=>∃ i,xs=[.int i]/\Q (.int (if i < 0 then -i else i)) H
def yG:List V->Hp->VK->Prop:=fun xs H Q=>(∃ i,xs=[.int i]/\Q (.int i) H)\/∃ k,xs=[.bl k]/\Q (.int (if k then 1 else 0)) H
section
variable {X:Cx}
theorem orR {f:Value->Value->Sem Value} {r r':R2} (h:OpR X f r) (h':OpR X f r'):OpR X f (rOr r r'):=OpR.or' h h'
theorem orS {r r':V->Option Int->Option Int->Hp->VK->Prop} (h:SlR X r) (h':SlR X r'):SlR X (E4 r r'):=SlR.or h h'
theorem xN:OpR X (binaryOp .Add) y7:=ou
theorem z5:OpR X (compareOp .Lt) Em:=pO
theorem AQ:OpR X (compareOp .LtE) FU:=pR
theorem AS:OpR X (compareOp .In) GO:=qJ
theorem qF:OpR X (compareOp .NotIn) xO:=ku
theorem rC (hc:X.calm=true):aS X (.builtin "all") (Fl X.K):=pV hc
theorem sD:aS X (.builtin "len") (y8 X.K):=sY
theorem ph:aS X (.builtin "abs") CI:=tK
theorem pZ:aS X (.type "int") yG:=pT
end
end L2
namespace L2
open PySem
noncomputable def nE (sc scope:Scope) (x:Str):Bool :=
 (scope.kind==.function)&&scope.names.all (fun y=>y.2 != .cell)&&scope.names.all (fun y=>y.2 != .local||scope.names.lookup y.1==some .local)&&(scope.names.lookup x==some .local)&&scope.names.all (fun y=>y.2 != .free||sc.names.lookup y.1==some .cell)
theorem bsc {X:Cx} {sc scope:Scope} {x:Str} (e:X.env.scope=sc) (h:nE sc scope x=true):fj X scope x:=by
 unfold nE at h;simp only [HN,IE,Bool.or_eq_true,bne_iff_ne,IW,ne_eq] at h;obtain ⟨⟨⟨⟨h1,h2⟩,h3⟩,h4⟩,h5⟩:=h;exact ⟨h1,fun y hy=>h2 y hy,fun y hy e=>(h3 y hy).resolve_left fun z=>z e,h4,fun y hy e'=>by rw [e];exact (h5 y hy).resolve_left fun z=>z e'⟩
end L2
namespace L2
open PySem
theorem aH {e:Expr} {es:List Expr} {env:Env} (h:PySem.W.isStarred e=false):starEach (e :: es) env=(false,eval e env) :: starEach es env:=by
 cases e <;> first | rfl | exact absurd h (by simp [PySem.W.isStarred])
theorem cS {pos:Pos} {env:Env}:∀ {es:List Expr},es.all (fun e=>!PySem.W.isStarred e)=true->(backTo pos (starEach es env)).any (·.1)=false
 | [],_=>rfl
 | e :: es,h=>by
  rw [List.all_cons,HN] at h;rw [aH (by simpa using h.1)];have ih:=cS (pos:=pos) (env:=env) h.2;unfold backTo at ih ⊢;rw [List.map_cons,Jb,ih];rfl
structure JE (X:Cx) (e:Expr) (t:TE):Prop where
 h:PE X e t
structure JT (X:Cx) (e:Expr) (t:TT):Prop where
 h:PT X e t
structure JW (X:Cx) (e:Expr) (t:TT):Prop where
 h:PW X e t
structure JA (X:Cx) (es:List Expr) (t:TA):Prop where
 h:PA X es t
structure JS (X:Cx) (s:Stmt) (t:TS):Prop where
 h:PS X s t
structure JSs (X:Cx) (s:List Stmt) (t:TS):Prop where
 h:PSs X s t
structure JG (X:Cx) (e:Expr) (t:TG):Prop where
 h:PG X e t
structure JI (X:Cx) (tg e:Expr) (t:TI):Prop where
 h:PI X tg e t
structure JO (X:Cx) (e:Option Expr) (t:TO):Prop where
 h:PO X e t
structure JC (X:Cx) (N:List Str) (scope:Scope) (e:Expr) (t:TE):Prop where
 h:∀ C s3 H3 ex,PE (cxB X N scope C s3 H3 ex) e t
structure JTs (X:Cx) (N:List Str) (scope:Scope) (e:List Expr) (t:TT):Prop where
 h:∀ C s3 H3 ex,PTs (cxB X N scope C s3 H3 ex) e t
structure JP (X:Cx) (pos:Pos) (ks:List (Option Expr)) (vs:List Expr) (t:List (TE×TE)):Prop where
 h:PPs X pos ks vs t
section
variable {X:Cx} {e a b c:Expr} {es rest:List Expr} {te ta tb tc:TE} {tA tB':TT} {t:TA} {x:Str} {p pos:Pos} {id T:String} {r:List V->Hp->VK->Prop} {CX:CXT} {k:Nat} {f:Addr} {fd:FuncData} {ps:List Str} {sp:Sp} {ds:List Value} {dvs:List V} {E:XK}
theorem BZ (i:Nat) (hN:X.N[i]?=some x) (hv:Vis X.env.scope x) (hd:(x==("__debug__" : Str))=false) (hcd:(x==("__classdict__" : Str))=false):JE X (.Name x pos) (ug i):=⟨Bk hN hv hd hcd⟩
theorem ar {i j}:JE X (.Constant (.int i) j pos) (tC (.int i)):=⟨zd⟩
theorem eBl {b j}:JE X (.Constant (.bool b) j pos) (tC (.bl b)):=⟨Dj⟩
theorem cg {x j}:JE X (.Constant (.str x) j pos) (tC (.str x)):=⟨Au⟩
theorem ai:JA X [] ml:=⟨zt⟩
theorem eA (ha:JE X e te) (hr:JA X es t) (h:PySem.W.isStarred e=false):JA X (e :: es) (cT te t):=⟨xu ha.h hr.h (aH h)⟩
theorem Bi (F:aY X.prog X.w X.K X.mg X.base CX k f fd ps sp) (hr:c6 k X.A) (hg:Gl X x) (hm:X.mg x=some (.ref f)) (hk:PySem.W.keepIn X.K (.ref f)=true) (hb:Binds X.K fd ps ds) (hd:Vals dvs ds) (hx:Passes CX X E)
  (ha:JA X (e :: es) t) (h1:PySem.W.isStarred e=false) (h2:es.all (fun e=>!PySem.W.isStarred e)=true) (hdb:(x==("__debug__" : Str))=false):JE X (.Call (.Name x p) (e :: es) [] pos) (qp sp dvs E t) :=
 ⟨wC F hr hg hm hk hb hd hx ha.h hdb (aH h1) (cS h2)⟩
theorem eB (hc:aS X (.builtin id) r) (hg:Gl X x) (hm:X.mg x=none) (hv:bootBuiltins x=some (.builtin id)) (ha:JA X (e :: es) t) (h1:PySem.W.isStarred e=false) (h2:es.all (fun e=>!PySem.W.isStarred e)=true)
  (hn:x ≠ "__name__") (hdb:(x==("__debug__" : Str))=false):JE X (.Call (.Name x p) (e :: es) [] pos) (tCB r t):=⟨uH hc hg hm hv ha.h hn hdb (aH h1) (cS h2)⟩
theorem eTy (hc:aS X (.type T) r) (hg:Gl X x) (hm:X.mg x=none) (hv:bootBuiltins x=some (.type T)) (ha:JA X (e :: es) t) (h1:PySem.W.isStarred e=false) (h2:es.all (fun e=>!PySem.W.isStarred e)=true)
  (hn:x ≠ "__name__") (hdb:(x==("__debug__" : Str))=false):JE X (.Call (.Name x p) (e :: es) [] pos) (tCB r t):=⟨pX hc hg hm hv ha.h hn hdb (aH h1) (cS h2)⟩
theorem eR1 {tg a:Expr} {ta:TA} (hg:Gl X "range") (hm:X.mg "range" = none) (ha:JA X [a] ta) (h:PySem.W.isStarred a=false):JI X tg (.Call (.Name "range" p) [a] [] pos) (wK ta):=⟨p4 hg hm ha.h (aH h)⟩
theorem eIL {tg:Expr} (h:JE X e te):JI X tg e (tZ X.K te):=⟨wy h.h⟩
theorem eIT {tg:Expr} (h:JE X e te):JI X tg e (B1 X.K te):=⟨Aq h.h⟩
theorem eIS {y:Str} {py:Pos} (h:JE X e te):JI X (.Name y py) e (D4 te):=⟨Ax h.h⟩
theorem yc {v:V} {u:Value} (hg:Gl X x) (hm:X.mg x=some u) (r:RelV v u) (hd:(x==("__debug__" : Str))=false):JE X (.Name x pos) (tC v):=⟨qv hg hm r hd⟩
theorem D0 {v:V} {u:Value} (hg:Gl X x) (hm:X.mg x=none) (hv:bootBuiltins x=some u) (r:RelV v u) (hn:x ≠ "__name__") (hd:(x==("__debug__" : Str))=false):JE X (.Name x pos) (tC v):=⟨x4 hg hm hv r hn hd⟩
theorem eOp {op:Operator} {r:R2} (ho:OpR X (binaryOp op) r) (ha:JE X a ta) (hb:JE X b tb):JE X (.BinOp a op b pos) (tOp r ta tb):=⟨DV ho ha.h hb.h⟩
theorem Gj (ha:JE X a ta):JE X (.UnaryOp .Not a pos) (vU ta):=⟨Bc ha.h⟩
theorem Bh {op} (h:JE X a te):JE X (.BoolOp op [a] pos) te:=⟨Br h.h⟩
theorem yw (ha:JE X a ta) (hb:JE X (.BoolOp .And (b :: rest) pos) tb):JE X (.BoolOp .And (a :: b :: rest) pos) (wZ ta tb):=⟨zg ha.h hb.h⟩
theorem eOr (ha:JE X a ta) (hb:JE X (.BoolOp .Or (b :: rest) pos) tb):JE X (.BoolOp .Or (a :: b :: rest) pos) (ES ta tb):=⟨C9 ha.h hb.h⟩
theorem eIf (hc:JT X c tA) (ha:JE X a ta) (hb:JE X b tb):JE X (.IfExp c a b pos) (tIf tA ta tb):=⟨tP hc.h ha.h hb.h⟩
theorem yt {op:CmpOp} {r:R2} (ho:OpR X (compareOp op) r) (ha:JE X a ta) (hb:JE X b tb) (hm:behindInMarks op b=false):JE X (.Compare a [op] [b] pos) (tOp r ta tb):=⟨xH ho ha.h hb.h hm⟩
theorem kQ {op:CmpOp} {r:R2} (ho:OpR X (compareOp op) r) (ha:JE X a ta) (hb:JE X b tb) (hm:behindInMarks op b=false):JT X (.Compare a [op] [b] pos) (rY (tOp r ta tb)):=⟨v9 ho ha.h hb.h hm⟩
theorem A2 {op op':CmpOp} {r r':R2} (ho:OpR X (compareOp op) r) (ho':OpR X (compareOp op') r') (ha:JE X a ta) (hb:JE X b tb) (hc:JE X c tc) (hm:lastMarks [op,op'] [b,c]=false):JE X (.Compare a [op,op'] [b,c] pos) (kg r r' ta tb tc):=⟨tM ho ho' ha.h hb.h hc.h hm⟩
theorem xy {op op':CmpOp} {r r':R2} (ho:OpR X (compareOp op) r) (ho':OpR X (compareOp op') r') (ha:JE X a ta) (hb:JE X b tb) (hc:JE X c tc) (hm:lastMarks [op,op'] [b,c]=false):JT X (.Compare a [op,op'] [b,c] pos) (rY (kg r r' ta tb tc)):=⟨tF ho ho' ha.h hb.h hc.h hm⟩
theorem Gs (h:JE X e te) (he:∀ whole,isTrue e X.env whole=(do let v<-whole;standAt e.pos;holding [v] (truthy v))):JT X e (tB te):=⟨Bl h.h he⟩
theorem il (ha:JT X a tA):JT X (.UnaryOp .Not a pos) (DK tA):=⟨BL ha.h⟩
theorem km (ha:JT X a tA):JW X (.BoolOp .And [a] pos) tA:=⟨pw_and1 ha.h⟩
theorem kF (ha:JT X a tA):JW X (.BoolOp .Or [a] pos) tA:=⟨pw_or1 ha.h⟩
theorem qt (ha:JT X a tA) (hb:JW X (.BoolOp .And (b :: rest) pos) tB'):JW X (.BoolOp .And (a :: b :: rest) pos) (EC tA tB'):=⟨pw_and ha.h hb.h⟩
theorem uS (ha:JT X a tA) (hb:JW X (.BoolOp .Or (b :: rest) pos) tB'):JW X (.BoolOp .Or (a :: b :: rest) pos) (tOr tA tB'):=⟨pw_or ha.h hb.h⟩
theorem eW (h:JW X e tA):JT X e tA:=⟨PW.pt h.h⟩
theorem uh {x1} (h:JA X es t):JE X (.Tuple es x1 pos) (BU t):=⟨yS h.h⟩
theorem ub (h:JA X es t):JE X (.List es pos) (E3 t):=⟨yC h.h⟩
theorem eIx {r:R2} (hr:IxR X r) (ha:JE X a ta) (hb:JE X b tb) (hs:ma b):JE X (.Subscript a b pos) (tOp r ta tb):=⟨CP hr ha.h hb.h hs⟩
theorem Bx:JO X none qx:=⟨wX⟩
theorem eP (h:JE X e te):JO X (some e) (zr te):=⟨v5 h.h⟩
theorem eSl {p2:Pos} {lo hi:Option Expr} {tl th:TO} {r:V->Option Int->Option Int->Hp->VK->Prop} (hr:SlR X r) (he:JE X e te) (hl:JO X lo tl) (hu:JO X hi th):JE X (.Subscript e (.Slice lo hi none p2) pos) (tSl r te tl th):=⟨tQ hr he.h hl.h hu.h⟩
theorem ePN:JP X pos [] [] []:=⟨v8⟩
theorem ePC {k v:Expr} {ks:List (Option Expr)} {vs:List Expr} {tk tv:TE} {trs:List (TE×TE)} (hk:JE X k tk) (hv:JE X v tv) (hr:JP X pos ks vs trs):JP X pos (some k :: ks) (v :: vs) ((tk,tv) :: trs):=⟨uE hk.h hv.h hr.h⟩
theorem FR {i:Nat} {pos':Pos} (he:JE X e te) (hN:X.N.Nodup) (hi:X.N[i]?=some x) (hx:Loc X.env.scope x) (hs:swapsWith e (some (.Name x pos')) pos.line X.env=pure false) (hf:X.fn x=true\/X.env.scope.names.lookup x=some .local) :
  JS X (.Assign [.Name x pos'] e pos) (rK te (cX i)):=⟨AK hN hi hx he.h hs hf⟩
theorem FH {tg:Expr} {g:TG} (he:JE X e te) (hg:JG X tg g) (hs:swapsWithSole [tg] e pos.line X.env=pure false) (hw:swappedStores [tg] e X.env=pure none) (h1:(assignEach [tg] X.env).map (·.2)=[assign tg X.env]):JS X (.Assign [tg] e pos) (rK te g):=⟨zP he.h hg.h hs hw h1⟩
theorem Gz {iter tg:Expr} {body:List Stmt} {wi:TI} {g:TG} {tb:TS} (hi:JI X tg iter wi) (hg:JG X tg g) (hb:JSs X body tb) (hp:PassesOwn (model X.prog X.w) X.A X.env X.xe) (hc:X.calm=true) (hs:∀ x,foldedSetIterable iter X.env x=pure x):JS X (.For tg iter body [] pos) (Bm wi g tb):=⟨z7 hp hc hi.h hg.h hb.h hs⟩
theorem zq {c:Expr} {body:List Stmt} {tc:TT} {tb:TS} (hc:JT X c tc) (hb:JSs X body tb) (hp:PassesOwn (model X.prog X.w) X.A X.env X.xe):JS X (.While c body [] pos) (qc tc tb):=⟨uI hp hc.h hb.h⟩
theorem dt {a b:List Stmt} {tc:TT} {t u:TS} (hc:JT X c tc) (ha:JSs X a t) (hb:JSs X b u):JS X (.If c a b pos) (DT tc t u):=⟨Ee hc.h ha.h hb.h⟩
theorem a7 (he:JE X e te):JS X (.Return (some e) pos) (CW te):=⟨zo he.h⟩
theorem eGN {i:Nat} (hN:X.N.Nodup) (hi:X.N[i]?=some x) (hx:Loc X.env.scope x) (hf:X.fn x=true\/X.env.scope.names.lookup x=some .local):JG X (.Name x pos) (cX i):=⟨jN hN hi hx hf⟩
theorem tq (he:JE X e te) (hs:swapsWith e none pos.line X.env=pure false):JS X (.Expr e pos) (xf te):=⟨xT he.h hs⟩
theorem Gd {o i:Expr} {to ti:TE} {t:BO} (ho:JE X o to) (hi:JE X i ti) (hs:DF X t) (ha:∀ v,assign (.Subscript o i pos) X.env v=(do
   let ov<-holding [v] (eval o X.env)
   let iv<-holding [v,ov] (eval i X.env)
   standAt pos
   holding [v,ov,iv] (setItem ov iv v)
   release [v,ov,iv] [])):JG X (.Subscript o i pos) (Fv to ti t):=⟨y4 ho.h hi.h hs ha⟩
theorem dO:JSs X [] xx:=⟨xZ⟩
theorem aB {s:Stmt} {t:TS} (h:JS X s t):JSs X [s] t:=⟨wq h.h⟩
theorem aG {s:Stmt} {rest:List Stmt} {t u:TS} (h:JS X s t) (hr:JSs X rest u):JSs X (s :: rest) (Eb t u):=⟨uv h.h hr.h⟩
theorem Er {elt iter:Expr} {px:Pos} {ifs:List Expr} {scope:Scope} {wi:TI} {tt:TT} {js:List Nat} (ys:List Str) (hi:JI X (.Name x px) iter wi) (ht:JTs X (x :: ys) scope ifs tt) (he:JC X (x :: ys) scope elt te)
  (hc:X.calm=true) (B:fj X scope x) (nd:(x :: ys).Nodup) (cap:d8 X scope ys js) (hs:∀ x,foldedSetIterable iter X.env x=pure x):JE X (.ListComp elt [⟨.Name x px,iter,ifs,0⟩] scope pos) (oN js wi tt te):=⟨ye hc hi.h B nd cap ht.h he.h hs⟩
theorem wJ {elt iter:Expr} {y:Str} {px py spos:Pos} {ifs:List Expr} {scope:Scope} {wi:TI} {tt:TT} {js:List Nat} {i:Nat} (ys:List Str) (hi:JI X (.Name x px) iter wi) (ht:JTs X (x :: ys) scope ifs tt) (he:JC X (x :: ys) scope elt te)
  (hN:X.N.Nodup) (hi':X.N[i]?=some y) (hy:X.env.scope.names.lookup y=some .local) (hsw:swapsWith (.ListComp elt [⟨.Name x px,iter,ifs,0⟩] scope pos) (some (.Name y py)) spos.line X.env=pure true)
  (hc:X.calm=true) (B:fj X scope x) (nd:(x :: ys).Nodup) (cap:d8 X scope ys js) (hs:∀ x,foldedSetIterable iter X.env x=pure x):JS X (.Assign [.Name y py] (.ListComp elt [⟨.Name x px,iter,ifs,0⟩] scope pos) spos) (rK (oN js wi tt te) (cX i)):=⟨xM hN hi' hy hsw hc hi.h B nd cap ht.h he.h hs⟩
theorem eC {N:List Str} {scope:Scope} (h:∀ C s3 H3 ex,JE (cxB X N scope C s3 H3 ex) e te):JC X N scope e te:=⟨fun C s3 H3 ex=>(h C s3 H3 ex).h⟩
theorem eT0 {N:List Str} {scope:Scope}:JTs X N scope [] Cu:=⟨fun _ _ _ _=>xa⟩
theorem eT1 {N:List Str} {scope:Scope} (h:∀ C s3 H3 ex,JT (cxB X N scope C s3 H3 ex) e tA):JTs X N scope [e] tA:=⟨fun C s3 H3 ex=>vZ (h C s3 H3 ex).h⟩
theorem eBM {apos cpos:Pos} {o:Expr} {name:Str} {to:TE} {r:V->List V->Hp->VK->Prop} (ho:JE X o to) (ha:JA X (e :: es) t) (hm:MtR X id r) (pa:PlainAttrs T) (slot:Slot T name id) (hty:typeOf (.builtin id)=pure (.type "method_descriptor"))
  (hbase:attributeBase o name X.env (eval o X.env)=eval o X.env)
  (hfew:((backTo cpos (starEach (e :: es) X.env)).all (fun x=>!x.1)&&(backToKw cpos (keywordEach [] X.env)).all (fun x=>x.1.isSome)
   && decide ((e :: es).length+([]:List Keyword).length+(if ([]:List Keyword).isEmpty then 0 else 1) < 30))=true)
  (hline:(apos.endLine==cpos.line)=true) (h1:PySem.W.isStarred e=false) (h2:es.all (fun e=>!PySem.W.isStarred e)=true):JE X (.Call (.Attribute o name apos) (e :: es) [] cpos) (tBM X.K T r to t):=⟨D2 pa slot hty hm ho.h ha.h hbase hfew hline (aH h1) (cS h2)⟩
end
open PySem.Spec PyProof.Rows
noncomputable def tyN:PyData->String
 | .none => "NoneType" | .bool _ => "bool" | .int _ => "int" | .str _ => "str" | .list _ => "list" | .tuple _ => "tuple" | .dict _ => "dict"
noncomputable def isS:PyData->Bool | .str _=>true | _=>false
noncomputable def isI:PyData->Bool | .int _=>true | .bool _=>true | _=>false
noncomputable def isB:PyData->Bool | .bool _=>true | _=>false
noncomputable def isT:PyData->Bool | .tuple _=>true | _=>false
noncomputable def isL:PyData->Bool | .list _=>true | _=>false
section
variable {K:Fg}
theorem C5 (d:PyData):PySem.W.kitOne K (.type (tyN d)) (.type "str")=some (isS d):=by cases d <;> with_unfolding_all rfl
theorem DS (d:PyData):PySem.W.kitOne K (.type (tyN d)) (.type "int")=some (isI d):=by cases d <;> with_unfolding_all rfl
theorem Cg (d:PyData):PySem.W.kitOne K (.type (tyN d)) (.type "bool")=some (isB d):=by cases d <;> with_unfolding_all rfl
theorem Am (d:PyData):PySem.W.kitOne K (.type (tyN d)) (.type "tuple")=some (isT d):=by cases d <;> with_unfolding_all rfl
theorem Aa (d:PyData):PySem.W.kitOne K (.type (tyN d)) (.type "list")=some (isL d):=by cases d <;> with_unfolding_all rfl
variable {p:Addr} {H:Hp} {d:PyData} {v:V} {Q:VK}
end
theorem rQ {b:Bool} {A B:Prop} (e:b=true) (h:A):if b=true then A else B:=by rw [Ht e];exact h
theorem mH {b:Bool} {A B:Prop} (e:b=false) (h:B):if b=true then A else B:=by rw [Hv (by rw [e];exact HQ)];exact h
theorem dZ {b:Bool} {A B:Prop} (h1:b=true->A) (h2:b=false->B):if b=true then A else B:=by
 cases b with
 | true=>rw [Ht rfl];exact h1 rfl
 | false=>rw [Hv HQ];exact h2 rfl
section
variable {r r':R2} {x y:V} {H:Hp} {Q:VK}
theorem AB {K:Fg} {z:Str} (l:z.length<=sizeLine) (h:Q (.int z.length) H):y8 K [.str z] H Q:=⟨_,_,rfl,⟨l,rfl⟩,h⟩
theorem AW {K:Fg} {p:Addr} {xs:List V} (s:SqL K H p xs) (h:Q (.int xs.length) H):y8 K [.ref p] H Q:=⟨_,_,rfl,.inl ⟨xs,s,rfl⟩,h⟩
theorem yT {K:Fg} {p:Addr} {xs:List V} (s:SqT K H p xs) (h:Q (.int xs.length) H):y8 K [.ref p] H Q:=⟨_,_,rfl,.inr ⟨xs,s,rfl⟩,h⟩
theorem Ez {i:Int} (h:Q (.int (if i < 0 then -i else i)) H):CI [.int i] H Q:=⟨i,rfl,h⟩
end
theorem Fun.okJ {P:Program} {w:World} {K:Fg} {mg:Str->Option Value} {base:Heap} {x qual:Str} {st:Stmt} {f:Addr} {fd:FuncData} {N ps:List Str} {k:Nat} {sp:Sp} (F:Fun K x qual st f fd) (S:ae N ps (aa st)) (len:∀ vs H Q E,sp vs H Q E->vs.length=ps.length)
  (hbody:∀ (cdv:Value) (A:Around) (outer:List Env) (s:Shared) (H:Hp) (vs:List V) (Q:VK) (E:XK),c6 k (A.deeper (envOfC qual (aa st) s.heap.objs.size f cdv))->sp vs H Q E ->
   ∃ t,JSs (uL CX0 P w K mg base N qual (aa st) f cdv A outer s H E).nox (bU st) t/\t { nx:=fun _ H'=>Q .non H',rt:=Q } (start N vs) H):aY P w K mg base CX0 (k+1) f fd ps sp :=
 F.ok S len fun cdv A outer s H vs Q E hr h=>let ⟨t,j,q⟩:=hbody cdv A outer s H vs Q E hr h;⟨t,j.h,q⟩
theorem je:∀ {ss:List Str} {us:List Value},Vals (ss.map V.str) us->StrsAre us ss
 | [],_,r=>by cases r;exact .nil
 | s :: ss,_,r=>by
  cases r with
  | cons r1 r2 =>
   obtain ⟨t,rfl⟩:=r1;exact .cons _ _ (je r2)
section
variable {X:Cx}
def u6 (K:Fg):List V->Hp->VK->Prop:=fun xs H Q=>∃ p ys,xs=[.ref p]/\((SqL K H p ys/\∀ l,H l=none->Q (.ref l) (upd H l (.tup ys)))\/(SqT K H p ys/\Q (.ref p) H))
theorem mC:aS X (.type "tuple") (u6 X.K):=jB
end
noncomputable def qu (xs:List Str):St:=xs.map fun _=>none
def AY (n:List Str) (js:List Nat) (wi:TI) (g:TG) (te:TE):TE:=fun σ H Q=>wi σ H fun J H1=>∃ W:Nat->Nat->St->List V->Hp->Prop,(∃ m,W 0 m (qu n++aT js σ) [] H1)/\∀ i m σB acc H,W i m σB acc H ->
 (J.stop i H/\acc.length<=sizeLine/\∀ p,H p=none->Q (.ref p) (upd H p (.lst acc)))\/(J.go i H/\acc.length < sizeLine/\∀ x H',J.yld i H x H' ->
  g x σB H' fun σ2 H2=>te σ2 H2 fun y H3=>∃ m',m' < m/\W (i+1) m' σ2 (acc++[y]) H3)
def F8 (K:Fg) (te:TE):TT:=fun σ H Q=>te σ H fun x H'=>∃ k,Ca K x H' k/\Q k H'
structure JGl (X:Cx) (es:List Expr) (t:TGs):Prop where
 h:PGs X es t
section
variable {X:Cx} {es:List Expr} {t:TGs} {pos:Pos} {x:Str} {i:Nat}
theorem Fu:JGl X [] DB:=⟨wM⟩
theorem zT (hN:X.N.Nodup) (hi:X.N[i]?=some x) (hx:Loc X.env.scope x) (hf:X.fn x=true\/X.env.scope.names.lookup x=some .local) (h:JGl X es t):JGl X (.Name x pos :: es) (wz (cX i) t):=⟨uQ (jN hN hi hx hf) h.h rfl⟩
theorem eGT {n:Nat} {k} (hc:X.calm=true) (h:JGl X es t) (hn:(assignEach es X.env).length=n) (hst:(assignEach es X.env).findIdx? (·.1)=none):JG X (.Tuple es k pos) (DW X.K n t):=⟨yX hc h.h hn hst⟩
end
section
variable {X:Cx}
def tFs:List TE->Str->TE
 | [],out=>fun _ H Q=>out.length<=sizeLine/\Q (.str out) H
 | t :: ts,out=>fun σ H Q=>t σ H fun x H1=>∃ y,x=.str y/\(out++y).length<=sizeLine/\tFs ts (out++y) σ H1 Q
def PFs (X:Cx) (vs:List Expr) (ts:List TE):Prop :=
 ∀ (pins:List (Addr×Obj)) (s:Shared) (σ:St) (H:Hp) (Q:VK) (out:Str),Inv X pins σ H s->tFs ts out σ H Q->wpAny (model X.prog X.w) X.A (joinParts out (evalEach vs X.env)) (EP X pins σ Q) X.xe s
theorem wg:PFs X [] []:=by
 intro pins s σ H Q out I h;exact joinParts_nil ⟨.str out,H,I.tok _,⟨_,rfl⟩,h.2⟩ h.1
theorem uq {v:Expr} {vs:List Expr} {t:TE} {ts:List TE} (hv:PE X v t) (hr:PFs X vs ts):PFs X (v :: vs) (t :: ts):=by
 intro pins s σ H Q out I h;show wpAny _ _ (joinParts out (eval v X.env :: evalEach vs X.env)) _ _ s;refine joinParts_cons (thn (hv pins s σ H _ I h) fun u s1 ⟨x,H1,I1,r1,y,ex,hz,q⟩=>?_);subst ex;obtain ⟨t',rfl⟩:=r1;exact ⟨hz,hr pins s1 σ H1 Q _ I1 q⟩
end
structure JF (X:Cx) (vs:List Expr) (ts:List TE):Prop where
 h:PFs X vs ts
section
variable {X:Cx}
theorem eF0:JF X [] []:=⟨wg⟩
theorem eFc {v:Expr} {vs:List Expr} {t:TE} {ts:List TE} (hv:JE X v t) (hr:JF X vs ts):JF X (v :: vs) (t :: ts):=⟨uq hv.h hr.h⟩
end
section
variable {X:Cx}
def zV (K:Fg):R2:=fun x y H Q=>∃ l b xs zs,x=.ref l/\y=.ref b/\SqL K H l xs/\SqL K H b zs/\xs.length+zs.length<=sizeLine/\∀ p,H p=none->Q (.ref p) (upd H p (.lst (xs++zs)))
theorem xG:OpR X (binaryOp .Add) (zV X.K):=by
 intro pins s σ H x y v u Q I rx ry h;obtain ⟨l,b,xs,zs,rfl,rfl,hH,hB,hz,q⟩:=h;cases rx;cases ry;obtain ⟨its,r,p,_⟩:=I.list hH;obtain ⟨its2,r2,p2,_⟩:=I.list hB;obtain ⟨⟨cls,dd,data,sl⟩,n,ho,hc,hd0,hd⟩:=p;obtain ⟨⟨cls2,dd2,data2,sl2⟩,n2,ho2,hc2,hd02,hd2⟩:=p2;simp only at hc hd hc2 hd2;subst hc hd hc2 hd2;have e:its.toArray++its2.toArray=(its++its2).toArray:=by simp
 refine concat_meets ⟨_,ho,rfl⟩ ⟨_,ho2,rfl⟩ noFill_list_add seq_list_add PySem.F.slot_list_add PySem.F.entry_list_add (PySem.F.args_list_add_2 _ _) (list_addW l b its.toArray its2.toArray n n2 dd dd2 sl sl2 (by rw [Hr,Hr,<-r.length,<-r2.length];exact hz)) ⟨ho,ho2,?_⟩;rw [e];exact ⟨.ref _,_,I.GH (t':=s.toks) (r.append r2) (by rw [Hq];omega),rfl,q _ I.fresh⟩
end
mutual
noncomputable def hkB:PyData->Bool
 | .int _=>true
 | .str _=>true
 | .tuple ds=>sX ds
 | _=>false
noncomputable def sX:List PyData->Bool
 | []=>true
 | d :: ds=>hkB d&&sX ds
end
theorem jF:∀ {ds:List PyData},sX ds=true↔∀ d∈ds,hkB d=true
 | []=>by simp [sX]
 | d :: ds=>by simp [sX,jF (ds:=ds)]
noncomputable def kyB (d:PyData):Bool:=hkB d&&d.canLay0&&decide (d.depth<=6)
noncomputable def hk6 (d:PyData):Bool:=hkB d&&decide (d.depth<=6)
mutual
theorem fq:∀ (d e:PyData),hkB d=true->hkB e=true->(PyData.eqv d e=true↔d=e)
 | .int i,e,_,h=>by
  cases e with
  | int j=>simp [PyData.eqv]
  | str y=>simp [PyData.eqv]
  | tuple es=>simp [PyData.eqv]
  | _=>cases h
 | .str x,e,_,h=>by
  cases e with
  | int j=>simp [PyData.eqv]
  | str y=>simp [PyData.eqv]
  | tuple es=>simp [PyData.eqv]
  | _=>cases h
 | .tuple ds,e,h1,h=>by
  cases e with
  | int j=>simp [PyData.eqv]
  | str y=>simp [PyData.eqv]
  | tuple es=>simp only [PyData.eqv,PyData.tuple.injEq];exact sr ds es h1 h
  | _=>cases h
 | .none,_,h,_=>by cases h
 | .bool _,_,h,_=>by cases h
 | .list _,_,h,_=>by cases h
 | .dict _,_,h,_=>by cases h
theorem sr:∀ (ds es:List PyData),sX ds=true->sX es=true->(PyData.eqvAll ds es=true↔ds=es)
 | [],[],_,_=>by simp [PyData.eqvAll]
 | [],_ :: _,_,_=>by simp [PyData.eqvAll]
 | _ :: _,[],_,_=>by simp [PyData.eqvAll]
 | d :: ds,e :: es,h1,h2=>by
  simp only [sX,HN] at h1 h2;rw [PyData.eqvAll,HN,fq d e h1.1 h2.1,sr ds es h1.2 h2.2,List.cons.injEq]
end
theorem k5 {d:PyData} {ds:List PyData} (h:d∈ds):d.depth+1<=(PyData.tuple ds).depth:=by
 have:∀ {ds:List PyData},d∈ds->d.depth<=PyData.depthAll ds:=by
  intro ds;induction ds with
  | nil=>intro h;cases h
  | cons x xs ih =>
   intro h;rw [PyData.depthAll];rcases Hz.mp h with rfl | h
   ·exact Nat.le_max_left _ _
   ·exact HJ (ih h) (Nat.le_max_right _ _)
 rw [PyData.depth];have:=this h;omega
theorem fW {h:Heap}:∀ {vs:List Value} {ds:List PyData} {as:List Addr},ReadsAll h vs ds as->vs.length=ds.length/\∀ (i:Nat) (v:Value),vs[i]?=some v->∃ d bs,ds[i]?=some d/\Reads h v d bs
 | _,_,_,.nil=>⟨rfl,fun i v e=>by simp at e⟩
 | _,_,_,.cons r t=>by
  obtain ⟨l,f⟩:=fW t;refine ⟨by simp [l],fun i v e=>?_⟩;cases i with
  | zero=>simp at e;subst e;exact ⟨_,_,rfl,r⟩
  | succ i=>simpa using f i v (by simpa using e)
section
variable {P:Program} {w:World} {A:Around} {E:Value->Shared->Prop} {s:Shared}
theorem qU:∀ (n:Nat) {d:PyData} {v:Value} {as:List Addr} {Q:Bool->Shared->Prop},Reads s.heap v d as->hkB d=true->d.depth<=n->Q true s->wpAny (model P w) A (eqIsQuiet n v) Q E s:=by
 intro n;induction n with
 | zero =>
  intro d v as Q r h hd q;cases r with
  | int i t=>rw [eqIsQuiet_byValue _ rfl];exact He q
  | str x t=>rw [eqIsQuiet_byValue _ rfl];exact He q
  | tuple _ _ _ _=>rw [PyData.depth] at hd;omega
  | _=>cases h
 | succ n ih =>
  intro d v as Q r h hd q;cases r with
  | int i t=>rw [eqIsQuiet_byValue _ rfl];exact He q
  | str x t=>rw [eqIsQuiet_byValue _ rfl];exact He q
  | @tuple a o vs k xs as ho hc hdt ra =>
   have hT:s.TypeIs (.ref a) "tuple" := ⟨o,ho,hc⟩;unfold eqIsQuiet;refine Ha (JD hT F.slot_tuple_eq.lookup ?_);show wpAny _ _ (isInstance (.ref a) (.type "tuple")>>=_) _ _ s;refine Ha (wpAny_isInstance hT isSubtype_tuple_tuple ?_);simp only [Bool.not_true,Iw,IG];refine Ha (wpAny_seqItems ho hdt (Ha ?_));show wpAny _ _ (forIn vs _ _) _ _ s;rw [<- Array.forIn_toList];have hx:=jF.mp h;refine II _ (fun rest r s'=>r.1=none/\s'=s/\∀ u∈rest,u∈vs.toList) _ ?_ ?_ _ _ ⟨rfl,rfl,fun _ z=>z⟩
   ·rintro u rest r s' ⟨hr,rfl,hall⟩;obtain ⟨i,hi⟩:=Ij.mp (hall u Hu);obtain ⟨d',bs,e1,r1⟩:=(fW ra).2 i u hi;have hm:=HB e1;refine Ha (ih r1 (hx d' hm) (by have:=k5 hm;omega) ?_);simp only [Bool.not_true,Iw,IG];exact He ⟨rfl,rfl,fun y hy=>hall y (Hm _ hy)⟩
   ·rintro ⟨r1,r2⟩ s' ⟨hr,rfl,_⟩;simp only at hr;subst hr;exact He q
  | _=>cases h
theorem vh:∀ (n:Nat) {A:Around} {s:Shared} {E:Value->Shared->Prop} {d:PyData} {v:Value} {as:List Addr} {Q:Int->Shared->Prop},Reads s.heap v d as->hkB d=true->d.depth<=n->A.units+n < cLine ->
  (∀ t,Q (bu w d) { s with toks:=t })->wpAny (model P w) A (pyHash v) Q E s:=by
 intro n;induction n with
 | zero =>
  intro A s E d v as Q r h hd hu q;cases r with
  | int i t=>exact wpAny_pyHash_int (q _)
  | str x t=>exact wpAny_pyHash_str (q _)
  | tuple _ _ _ _=>rw [PyData.depth] at hd;omega
  | _=>cases h
 | succ n ih =>
  intro A s E d v as Q r h hd hu q;cases r with
  | int i t=>exact wpAny_pyHash_int (q _)
  | str x t=>exact wpAny_pyHash_str (q _)
  | @tuple a o vs k xs as ho hc hdt ra =>
   have hT:s.TypeIs (.ref a) "tuple" := ⟨o,ho,hc⟩;have hx:=jF.mp h;unfold pyHash;first | unfold pyHashByItsType | skip
   first | refine Ha (wpAny_cRoomFor_or (.inr (by omega)) ?_) | skip
   refine Ha (JD hT F.slot_tuple_hash.lookup ?_);show wpAny _ _ (if (some (Value.builtin "tuple.__hash__")==some Value.none)=true then _ else _) Q E s;rw [Hv (by rw [beq_builtin_none];exact HQ)];refine Ha (JD hT F.slot_tuple_hash.lookup ?_);show wpAny _ _ (callSpecialIfBoundUnlessNone? (.ref a) "__hash__" _>>=_) Q E s;refine Ha (wpAny_callSpecialIfBoundUnlessNone?_slot hT F.slot_tuple_hash (Ib F.slot_tuple_hash hT F.entry_tuple_hash ?_ (F.args_tuple_hash_1 _)));show wpAny _ _ (Builtin.Tuple.tupleItemsOf (.ref a)>>=_) _ _ s;refine Ha (wpAny_tupleItemsOf ho hdt (Ha ?_));rw [<- Array.forIn_toList];have hap:∀ (l m:List PyData),bJ w (l++m)=bJ w l++bJ w m:=by
    intro l m;induction l with
    | nil=>rfl
    | cons x l ihl=>rw [List.cons_append,bJ,bJ,ihl];rfl
   refine II _ (fun rest (b:Array Int) s'=>∃ i,rest=vs.toList.drop i/\b.toList=bJ w (xs.take i)/\∃ t,s'={ s with toks:=t }) _ ?_ ?_ _ _ ⟨0,rfl,rfl,_,rfl⟩
   ·rintro u rest b s' ⟨i,hr,hb,t,rfl⟩;have hi:vs.toList[i]?=some u:=by
     have:(vs.toList.drop i)[0]?=some u:=by rw [<- hr];rfl
     simpa using this
    obtain ⟨d',bs,e1,r1⟩:=(fW ra).2 i u hi;have hm:=HB e1;refine Ha (ih (s:={ s with toks:=t }) r1 (hx d' hm) (by have:=k5 hm;omega) (by have:A.in1.units=A.units+1:=rfl;omega) fun t'=>?_);have nx:rest=vs.toList.drop (i+1)/\(b.push (bu w d')).toList=bJ w (xs.take (i+1))/\∃ t'',({ s with toks:=t' }:Shared)={ s with toks:=t'' }:=by
     refine ⟨?_,?_,_,rfl⟩
     ·have:=congrArg List.tail hr;simpa [List.tail_drop] using this
     ·rw [List.take_add_one,e1,hap,Array.toList_push,hb];rfl
    first
     | exact He ⟨i+1,nx⟩
     | exact Ha (He (He ⟨i+1,nx⟩))
   ·rintro b s' ⟨i,hr,hb,t,rfl⟩;have hi:vs.toList.length<=i:=by
     have:=congrArg List.length hr;simp at this;simpa using (by omega:vs.size<=i)
    rw [Jz (by rw [<- (fW ra).1];exact hi)] at hb;show wpAny _ _ (retInt (Builtin.Tuple.tupleHashOf b.toList)) _ _ _;rw [hb];refine wpAny_ret_mkInt ?_;have q':=q;rw [bu] at q';unfold reduceHash at q';show wpAny _ _ (if (decide (-(2:Int) ^ 63<=Builtin.Tuple.tupleHashOf (bJ w xs))&&decide (Builtin.Tuple.tupleHashOf (bJ w xs) < 2 ^ 63))=true then _ else _) Q E _;by_cases hc:(decide (-(2:Int) ^ 63<=Builtin.Tuple.tupleHashOf (bJ w xs))&&decide (Builtin.Tuple.tupleHashOf (bJ w xs) < 2 ^ 63))=true
    ·rw [Ht hc];rw [Ht hc] at q';exact He (q' _)
    ·rw [Hv hc];rw [Hv hc] at q';exact Ha (IH (He (q' _)))
  | _=>cases h
end
open PySem PySem.Spec PyProof.Rows
theorem aw {d:PyData}:kyB d=true↔hkB d=true/\d.canLay0=true/\d.depth<=6:=by simp [kyB,and_assoc]
section
variable {P:Program} {w:World} {A:Around} {E:Value->Shared->Prop} {s:Shared}
structure xY (w:World) (h:Heap) (es:Array DictEntry) (ks:List PyData):Prop where
 len:es.size=ks.length
 nd:ks.Nodup
 at_:∀ (j:Nat) (k:PyData),ks[j]?=some k->kyB k=true/\∃ e bs,es[j]?=some e/\e.hash=bu w k/\Reads h e.key k bs
theorem xY.at' {h:Heap} {es:Array DictEntry} {ks:List PyData} (N:xY w h es ks) {j:Nat} {e:DictEntry} (he:es[j]?=some e):∃ k bs,ks[j]?=some k/\kyB k=true/\e.hash=bu w k/\Reads h e.key k bs:=by
 have hj:j < ks.length:=by rw [<- N.len];exact (Array.getElem?_eq_some_iff.mp he).1
 obtain ⟨a,e',bs,b,c,r⟩:=N.at_ j _ (Hc hj);rw [he] at b;cases b;exact ⟨_,bs,Hc hj,a,c,r⟩
theorem xY.one {h:Heap} {es:Array DictEntry} {ks:List PyData} (N:xY w h es ks) {i j:Nat} {k:PyData} (hi:ks[i]?=some k) (hj:ks[j]?=some k):i=j :=
 (ID (Hd.mp hi).1 N.nd).mp (hi.trans hj.symm)
theorem wc {key key':Value} {k k':PyData} {as bs:List Addr} (hu:A.units+6 < cLine) (r:Reads s.heap key k as) (r':Reads s.heap key' k' bs) (h:kyB k=true) (h':kyB k'=true):SeqAt.EqAt A s key' key (PyData.eqv k' k):=by
 rw [aw] at h h';exact SeqAt.eqAt_reads k' k A s key' key bs as r' r h'.2.1 h.2.1 (by have:=Nat.min_le_right k'.depth k.depth;omega)
theorem A8 {key:Value} {k:PyData} {as:List Addr} {st:List Value} {Q:Bool->Shared->Prop} (r:Reads s.heap key k as) (h:kyB k=true) (hst:∀ v∈st,∃ k' bs,Reads s.heap v k' bs/\kyB k'=true) (q:Q false s) :
  wpAny (model P w) A (tableMayTell key st) Q E s:=by
 rw [aw] at h;unfold tableMayTell;split
 ·exact He q
 ·refine Ha (qU 8 r h.1 (by omega) ?_);rw [Hv (by simp)];refine Ha (II _ (fun rest b s'=>s'=s/\b=(none,())/\∀ v∈rest,v∈st) _ ?_ ?_ _ _ ⟨rfl,rfl,fun _ z=>z⟩)
  ·rintro v rest b s' ⟨rfl,rfl,hr⟩;obtain ⟨k',bs,r',h'⟩:=hst v (hr v Hu);rw [aw] at h';refine Ha (qU 8 r' h'.1 (by omega) ?_);rw [Hv (by simp)];exact He ⟨rfl,rfl,fun v hv=>hr v (Hm _ hv)⟩
  ·rintro b s' ⟨rfl,rfl,_⟩;exact He q
theorem rq {h:Heap} {v:Value} {x:Str} {as:List Addr} (r:Reads h v (.str x) as):∃ t,v=.str x t:=by cases r;exact ⟨_,rfl⟩
theorem l9 {h:Heap} {v:Value} {x:Str} {k:PyData} {as:List Addr} (r:Reads h v k as) (hk:hkB k=true) (hp:v.isStr x=true):k=.str x:=by
 cases r with
 | str y t=>simp [Value.isStr] at hp;simp [hp]
 | int i t=>simp [Value.isStr] at hp
 | tuple _ _ _ _=>simp [Value.isStr] at hp
 | _=>cases hk
theorem qj {α:Type} {c:Prop} [Decidable c] {x y:Sem α} {Q:α->Shared->Prop} (hx:wpAny (model P w) A x Q E s) (hy:wpAny (model P w) A y Q E s):wpAny (model P w) A (if c then x else y) Q E s:=by
 split
 ·exact hx
 ·exact hy
theorem yV {α:Type} {c:Prop} [Decidable c] {m:Sem Bool} {f:Bool->Sem α} {Q:α->Shared->Prop} (hm:∀ Q':Bool->Shared->Prop,Q' false s->wpAny (model P w) A m Q' E s) (h:wpAny (model P w) A (f false) Q E s) :
  wpAny (model P w) A (if c then (pure false:Sem Bool)>>=f else m>>=f) Q E s:=qj (Ha (He h)) (Ha (hm _ h))
theorem qa {w0:World} {d:Addr} {o:Obj} {es:Array DictEntry} {ep:Nat} {ks:List PyData} {k:PyData} {key:Value} {as:List Addr} {Q:Option Nat->Shared->Prop}
  (hu:A.units+6 < cLine) (hk:Reads s.heap key k as) (hky:kyB k=true) (ho:s.heap.get? d=some o) (hd:o.data=.dict es ep) (N:xY w0 s.heap es ks)
  (hnone:(∀ j:Nat,ks[j]?≠some k)->Q none s) (hsome:∀ j:Nat,ks[j]?=some k->Q (some j) s):wpAny (model P w) A (dictFind d key (bu w0 k)) Q E s:=by
 have hk3:=aw.mp hky;have hsz:=N.len;have hash_at:∀ j:Nat,ks[j]?=some k->((es[j]?.map (·.hash))==some (bu w0 k))=true:=fun j hj=>by
  obtain ⟨_,e,bs,he,hh,_⟩:=N.at_ j k hj;rw [he];simp [hh]
 have same:∀ {k'},kyB k'=true->(PyData.eqv k' k=true↔k'=k):=fun h'=>fq _ _ (aw.mp h').1 hk3.1;have done:∀ i:Nat,i<=es.size->(∀ j:Nat,j < i->ks[j]?≠some k)->[]=(List.range' i (es.size - i)).filter (fun i=>(es[i]?.map (·.hash))==some (bu w0 k))->∀ j:Nat,ks[j]?≠some k:=by
  intro i hi hno hr j hj;rcases Jx j i with h | h
  ·exact hno j h hj
  ·have hjl:j < es.size:=by rw [hsz];exact (Hd.mp hj).1
   have:=List.filter_eq_nil_iff.mp hr.symm j (List.mem_range'_1.mpr ⟨h,by omega⟩);exact this (hash_at j hj)
 have skip:∀ {i x:Nat},(∀ j:Nat,j < i->ks[j]?≠some k)->(∀ j:Nat,i<=j->j < x->((es[j]?.map (·.hash))==some (bu w0 k))=false)->∀ j:Nat,j < x->ks[j]?≠some k:=by
  intro i x hno hs j hjx hj;rcases Jx j i with h | h
  ·exact hno j h hj
  ·have:=hs j h hjx;rw [hash_at j hj] at this;cases this
 have step:∀ {x:Nat} {k':PyData},ks[x]?=some k'->k'≠k->(∀ j:Nat,j < x->ks[j]?≠some k)->∀ j:Nat,j < x+1->ks[j]?≠some k:=by
  intro x k' hx hne hno j hj hjk;rcases Jx j x with h | h
  ·exact hno j h hjk
  ·have:j=x:=by omega
   subst this;rw [hx] at hjk;cases hjk;exact hne rfl
 have plain:wpAny (model P w) A (dictWalkPlain d key (bu w0 k) es (placesWithHash es.size (fun i=>es[i]?.map (·.hash)) (bu w0 k))) Q E s:=by
  unfold dictWalkPlain
  refine Ha (II _ (fun rest b s'=>s'=s/\b=(none,())/\∃ i:Nat,rest=(List.range' i (es.size - i)).filter (fun i=>(es[i]?.map (·.hash))==some (bu w0 k))/\i<=es.size/\∀ j:Nat,j < i->ks[j]?≠some k) _ ?_ ?_ _ _
   ⟨rfl,rfl,0,by rw [placesWithHash,List.range_eq_range',Nat.sub_zero],Ia _,fun _ h=>absurd h (Nat.not_lt_zero _)⟩)
  ·rintro x rest b s' ⟨rfl,rfl,i,hr,hi,hno⟩;obtain ⟨hix,hxn,hpx,hskip,hrest⟩:=filter_range'_cons _ _ _ _ _ hr.symm;have hlt:x < es.size:=by omega
   have hex:es[x]?=some es[x]:=HG hlt;obtain ⟨k',bs,hkx,hk',hh,hr'⟩:=N.at' hex;have hno':=skip hno hskip;have hrest':rest=(List.range' (x+1) (es.size - (x+1))).filter (fun i=>(es[i]?.map (·.hash))==some (bu w0 k)):=by rw [hrest];congr 2;omega
   rw [hex] at hpx ⊢;have hhx:(es[x].hash==bu w0 k)=true:=by simpa using hpx
   dsimp only;rw [Ht hhx];refine Ha (Ii ho hd (Ha (wc hu hk hr' hky hk' _ _ _ _ (Ha (Ii ho hd ?_)))));rw [Hv (by simp)];by_cases z:k'=k
   ·subst z;rw [(same hky).mpr rfl];first | rw [Ht rfl] | skip
    exact Ha (IH (He (He (hsome x hkx))))
   ·have:PyData.eqv k' k=false:=by
     cases q:PyData.eqv k' k with
     | false=>rfl
     | true=>exact absurd ((same hk').mp q) z
    rw [this];rw [Hv (by simp)];exact Ha (IH (He ⟨rfl,rfl,x+1,hrest',hlt,step hkx z hno'⟩))
  ·rintro b s' ⟨rfl,rfl,i,hr,hi,hno⟩;exact He (hnone (done i hi hno hr))
 have hst:∀ v∈(placesWithHash es.size (fun i=>es[i]?.map (·.hash)) (bu w0 k)).filterMap (fun i=>es[i]?.map (·.key)),∃ k' bs,Reads s.heap v k' bs/\kyB k'=true:=by
  intro v hv;obtain ⟨i,_,hi⟩:=List.mem_filterMap.mp hv;obtain ⟨e,he,rfl⟩:=Hs.mp hi;obtain ⟨k',bs,_,h1,_,h2⟩:=N.at' he;exact ⟨k',bs,h2,h1⟩
 unfold dictFind;try with_reducible refine HR ?_
 refine Ha (Iq ho hd ?_);have shape:(∃ i t,key=.int i t)\/(∃ x t,key=.str x t/\k=.str x)\/∃ a,key=.ref a:=by
  cases hk with
  | int i t=>exact .inl ⟨i,t,rfl⟩
  | str x t=>exact .inr (.inl ⟨x,t,rfl,rfl⟩)
  | tuple _ _ _ _=>exact .inr (.inr ⟨_,rfl⟩)
  | _=>cases hk3.1
 rcases shape with ⟨i,t,rfl⟩ | ⟨x,t,rfl,ek⟩ | ⟨a,rfl⟩;refine qj plain ?_
 rotate_left
 refine qj ?_ (qj plain ?_)
 ·subst ek;unfold foundByValue;cases hf:es.findIdx? (·.key.isStr x) with
  | none =>
   refine He (hnone fun j hj=>?_);obtain ⟨_,e,bs,he,_,r⟩:=N.at_ j _ hj;have:=Array.findIdx?_eq_none_iff.mp hf e (Array.mem_of_getElem? he);obtain ⟨t',e'⟩:=rq r;rw [e'] at this;simp [Value.isStr] at this
  | some i =>
   have hi:=(Array.findIdx?_eq_some_iff_getElem.mp hf);obtain ⟨hlt,hp,_⟩:=hi;have hex:es[i]?=some es[i]:=HG hlt;obtain ⟨k',bs,hkx,hk',hh,hr'⟩:=N.at' hex;have e1:k'=.str x:=l9 hr' (aw.mp hk').1 hp;subst e1;dsimp only;rw [hex];dsimp only;refine Ha (Ii ho hd (Ha (wc hu hk hr' hky hk' _ _ _ _ (Ha (Ii ho hd ?_)))));rw [Hv (by simp),(same hky).mpr rfl];first | rw [Ht rfl] | skip
   exact Ha (IH (He (hsome i hkx)))
 rotate_left
 refine qj plain ?_;have hany:¬(es.any fun e=>e.key==Value.ref a&&e.hash != bu w0 k)=true:=by
  rw [<- Array.any_toList,IK];rintro ⟨e,hin,hc⟩;obtain ⟨j,hj⟩:=Ij.mp hin;obtain ⟨k',bs,_,_,h3,h4⟩:=N.at' (j:=j) (e:=e) (by simpa using hj);simp only [HN,IW,bne_iff_ne,ne_eq] at hc;rw [hc.1] at h4;exact hc.2 (by rw [h3,(PySem.Reads.unique h4 _ _ hk).1])
 dsimp only;rw [Hv hany]
 all_goals
  refine yV (fun Q' q=>A8 hk hky hst q) ?_;try dsimp only
  rw [Hv (by simp)]
  refine Ha (II _ (fun rest b s'=>s'=s/\∃ (i:Nat) (hit:Option Nat),b=(none,hit)/\rest=(List.range' i (es.size - i)).filter (fun i=>(es[i]?.map (·.hash))==some (bu w0 k))/\i<=es.size /\
    ((hit=none/\∀ j:Nat,j < i->ks[j]?≠some k)\/∃ j,hit=some j/\j < i/\ks[j]?=some k)) _ ?_ ?_ _ _
   ⟨rfl,0,none,rfl,by rw [placesWithHash,List.range_eq_range',Nat.sub_zero],Ia _,.inl ⟨rfl,fun _ h=>absurd h (Nat.not_lt_zero _)⟩⟩)
  ·rintro x rest b s' ⟨rfl,i,hit,rfl,hr,hi,hH⟩;obtain ⟨hix,hxn,hpx,hskip,hrest⟩:=filter_range'_cons _ _ _ _ _ hr.symm;have hlt:x < es.size:=by omega
   have hex:es[x]?=some es[x]:=HG hlt;obtain ⟨k',bs,hkx,hk',hh,hr'⟩:=N.at' hex;have hrest':rest=(List.range' (x+1) (es.size - (x+1))).filter (fun i=>(es[i]?.map (·.hash))==some (bu w0 k)):=by rw [hrest];congr 2;omega
   rw [hex] at hpx ⊢;have hhx:=(show (es[x].hash==bu w0 k)=true by simpa using hpx);dsimp only;rw [Ht hhx];refine Ha (Ii ho hd (Ha (wc hu hk hr' hky hk' _ _ _ _ (Ha (Ii ho hd ?_)))));rw [Hv (by simp)];cases q:PyData.eqv k' k with
   | true =>
    have z:=(same hk').mp q;rw [z] at hkx;first | rw [Ht rfl] | skip
    have h0:hit=none:=by
     rcases hH with ⟨h0,_⟩ | ⟨j,_,hj,hjk⟩
     ·exact h0
     ·exact absurd (N.one hjk hkx) (by omega)
    subst h0;simp only [Option.isSome_none,Iw,IG];first | refine Ha (He ?_) | skip
    refine Ha (IH ?_);split
    ·exact He (He (hsome x hkx))
    ·exact He ⟨rfl,x+1,some x,rfl,hrest',hlt,.inr ⟨x,rfl,Ju x,hkx⟩⟩
   | false =>
    rw [Hv (by simp)];have z:k'≠k:=fun e=>by rw [(same hk').mpr e] at q;cases q
    have st:(hit=none/\∀ j:Nat,j < x+1->ks[j]?≠some k)\/∃ j,hit=some j/\j < x+1/\ks[j]?=some k:=by
     rcases hH with ⟨h0,hno⟩ | ⟨j,h0,hj,hjk⟩
     ·exact .inl ⟨h0,step hkx z (skip hno hskip)⟩
     ·exact .inr ⟨j,h0,by omega,hjk⟩
    refine Ha (IH ?_);first | rw [Hv (by simp)] | skip
    first
     | exact He ⟨rfl,x+1,hit,rfl,hrest',hlt,st⟩
     | exact Ha (He (He ⟨rfl,x+1,hit,rfl,hrest',hlt,st⟩))
  ·rintro b s' ⟨rfl,i,hit,rfl,hr,hi,hH⟩;rcases hH with ⟨rfl,hno⟩ | ⟨j,rfl,_,hj⟩
   ·exact He (hnone (done i hi hno hr))
   ·exact He (hsome j hj)
end
open PySem PySem.Spec PyProof.Rows
noncomputable def kD:Key->PyData | .inl i=>.int i | .inr x=>.str x
noncomputable def cvK (kv:Key×V):PyData×V×V:=(kD kv.1,kV kv.1,kv.2)
theorem vB {a b:Key} (h:kD a=kD b):a=b:=by
 cases a <;> cases b <;> simp [kD] at h <;> simp [h]
theorem md (w:World) (k:Key):bu w (kD k)=FD w k:=by cases k <;> rfl
theorem mX {P:Program} {w:World} {H:Hp} (h:Heap) (hb:sysModules < h.objs.size):aR P w H (h.push { cls:=.type "dict", data:=.dict #[] }) h.objs.size (.dD 0 []) :=
 ⟨Ia _,beq_eq_false_iff_ne.mpr (Ne.symm (HI hb)),List.nodup_nil,_,#[],HC _ rfl,⟨rfl,rfl,rfl⟩,rfl,.nil⟩
theorem kT {P:Program} {w:World}:∀ {kvs:List (Key×V)} {vs:List (Key×Value)} {es:List DictEntry},KV kvs vs->Pairs (aj P w) es vs->(∀ e∈es,∃ k,(aj P w).is k e.key=true/\e.hash=(aj P w).hash k)->Paired (uM w) (kvs.map cvK) es
 | [],_,_,r,q,_=>by cases r;cases q;exact .nil
 | p :: kvs,_,es,r,q,h=>by
  cases r with
  | cons r t =>
   cases q with
   | @cons e kv es' kvs' h1 h2 h3 =>
    obtain ⟨k,hk,hh⟩:=h e Hu;have e1:k=p.1:=by rw [r.1];exact (aj P w).inj _ _ _ hk h1
    subst e1;refine .cons ⟨?_,?_,?_⟩ (kT t h3 fun e he=>h e (Hm _ he))
    ·rw [hh];exact (md w _).symm
    ·show RelV (kV p.1) e.key;rcases aq (show jy p.1 e.key=true from hk) with ⟨i,t,e1,e2⟩ | ⟨x,t,e1,e2⟩
     ·rw [e1,e2];exact ⟨t,rfl⟩
     ·rw [e1,e2];exact ⟨t,rfl⟩
    ·show RelV p.2 e.val;rw [h2];exact r.2
theorem CK {P:Program} {w:World} {H:Hp} {h:Heap} {a:Addr} {kvs:List (Key×V)} {vs:List (Key×Value)} (z:kvs.length<=sizeLine) (hd:(a==sysModules)=false) (rel:KV kvs vs) (dd:h.DictOf (aj P w) a vs) :
  ∃ ep,aR P w H h a (.dD ep (kvs.map cvK)):=by
 obtain ⟨o,es,ep,h1,h2,h3,h4,h5,h6⟩:=dd;refine ⟨ep,by rw [Hb];exact z,hd,?_,o,es,h1,h2,h3,kT rel h5 fun e he=>h4 e (Array.mem_toList_iff.mp he)⟩;have e1:vs.map (·.1)=kvs.map (·.1):=by
  clear h5 h6 z;unfold KV at rel;induction rel with
  | nil=>rfl
  | cons r t ih=>rw [List.map_cons,List.map_cons,ih,r.1]
 rw [e1] at h6;rw [HX];have:(kvs.map ((fun x:PyData×V×V=>x.1)∘cvK))=(kvs.map (·.1)).map kD:=by rw [HX];rfl
 rw [this];exact List.Pairwise.map kD (fun _ _ n z=>n (vB z)) h6
def uW:TE:=fun _ H Q=>∀ p,H p=none->Q (.ref p) (upd H p (.dD 0 []))
def rX (trs:List (TE×TE)):TE:=fun σ H Q=>∀ p,H p=none->nM trs σ (upd H p (.dD 0 [])) fun ps H2=>H2 p=some (.dD 0 [])/\∃ kvs:List (Key×V),ps=kvs.map (fun kv=>(kV kv.1,kv.2))/\kvs.length<=15/\∀ ep,Q (.ref p) (upd H2 p (.dD ep ((cA [] kvs).map cvK)))
section
variable {X:Cx} {pos:Pos}
theorem ux:PE X (.Dict [] [] pos) uW:=fun pins s σ H Q I h =>
 wpAny_Dict_empty ⟨.ref s.heap.objs.size,_,I.laid (o:=.dD 0 []) (t':=s.toks) (fun _ _ q=>Hg _ q) (Hl _) (mX s.heap I.big),rfl,h _ (I.hok.fresh (Hl _))⟩
theorem uy {keys:List (Option Expr)} {values:List Expr} {trs:List (TE×TE)} (h:PPs X pos keys values trs) (hall:keys.all (·.isSome)=true) (hl:keys.length=values.length) (h0:keys≠[])
  (h15:keys.length<=15):PE X (.Dict keys values pos) (rX trs):=by
 intro pins s σ H Q I q;have hn:=I.hok.fresh (Hl s.heap.objs.size);have I1:=I.laid (o:=.dD 0 []) (h':=s.heap.push { cls:=.type "dict", data:=.dict #[] }) (t':=s.toks) (fun _ _ q=>Hg _ q) (Hl _) (mX s.heap I.big);refine wpAny_Dict_walk (knd:=aj X.prog X.w) hall hl h0 h15 (thn (h pins _ σ _ _ I1 (q _ hn)) fun ws s2 ⟨ps,H2,I2,rel,e,kvs,ep,lk,q2⟩=>?_);subst ep;obtain ⟨rs,c,rk⟩:=jg (P:=X.prog) (w:=X.w) rel;obtain ⟨z,hd,nd,o,es,g1,g2,g3,g4⟩:=(show aR X.prog X.w H2 s2.heap s.heap.objs.size (.dD 0 []) from I2.hok _ _ e);have ees:es=#[]:=by
  cases es with
  | mk l=>cases g4;rfl
 subst ees;have dd:s2.heap.DictOf (aj X.prog X.w) s.heap.objs.size []:=⟨o,#[],0,g1,g2,g3,fun e he=>by simp at he,.nil,List.nodup_nil⟩;refine ⟨rs,c,dd,fun h' dd' hs=>?_⟩;have hz:(cA [] kvs).length<=sizeLine:=by
  have h1:=dW kvs [];rw [List.length_nil] at h1;rw [Io];omega
 have he:∃ q,h'.get? s.heap.objs.size=some q:=let ⟨q,_,_,hq,_⟩:=dd';⟨q,hq⟩
 obtain ⟨ep,new⟩:=CK (H:=upd H2 s.heap.objs.size (.dD 0 [])) hz hd (rk.merge .nil) dd';exact ⟨.ref s.heap.objs.size,_,lH I2 (by rw [e];exact True.intro) hs he (ob:=.dD ep ((cA [] kvs).map cvK)) new,rfl,q2 ep⟩
end
noncomputable def lA (xs:List (PyData×V×V)) (k:PyData):Option V:=(xs.find? fun x=>PyData.eqv x.1 k).map (·.2.2)
noncomputable def nt (xs:List (PyData×V×V)) (k:PyData) (j v:V):List (PyData×V×V) :=
 if (xs.any fun x=>PyData.eqv x.1 k)=true then xs.map (fun x=>if PyData.eqv x.1 k=true then (x.1,x.2.1,v) else x) else xs++[(k,j,v)]
def gX (h:Heap) (xs:List (PyData×V×V)):Prop:=∀ x∈xs,kyB x.1=true/\∀ u,RelV x.2.1 u->∃ bs,Reads h u x.1 bs
section
variable {X:Cx} {pins:List (Addr×Obj)} {σ:St} {H:Hp} {s:Shared} {a:Addr} {A:Around} {E:Value->Shared->Prop} {ep:Nat} {xs:List (PyData×V×V)} {k:PyData} {u:Value} {as:List Addr}
theorem bt {α β:Type} {R:α->β->Prop}:∀ {l:List α} {m:List β},Paired R l m->∀ (j:Nat) (x:α),l[j]?=some x->∃ y,m[j]?=some y/\R x y
 | _,_,.nil,j,x,e=>by simp at e
 | _,_,.cons r t,0,x,e=>by simp at e;subst e;exact ⟨_,rfl,r⟩
 | _,_,.cons r t,j+1,x,e=>by simpa using bt t j x (by simpa using e)
theorem me {P:Program} {w:World} {h:Heap} {es:Array DictEntry} (kr:gX h xs) (nd:(xs.map (·.1)).Nodup) (r:Paired (uM w) xs es.toList):xY w h es (xs.map (·.1)) where
 len:=by rw [Hb,Im r];simp
 nd:=nd
 at_:=fun j k e=>by
  rw [Hi] at e;obtain ⟨x,hx,rfl⟩:=Hs.mp e;obtain ⟨en,h1,h2,h3,h4⟩:=bt r j x hx;obtain ⟨k1,k2⟩:=kr x (HB hx);obtain ⟨bs,r1⟩:=k2 _ h3;exact ⟨k1,en,bs,by simpa using h1,h2,r1⟩
theorem qQ {j:Nat} (kr:gX s.heap xs) (nd:(xs.map (·.1)).Nodup) (ky:kyB k=true) (hj:(xs.map (·.1))[j]?=some k):∃ x,xs[j]?=some x/\x.1=k/\xs.find? (fun x=>PyData.eqv x.1 k)=some x:=by
 rw [Hi] at hj;obtain ⟨x,hx,rfl⟩:=Hs.mp hj;refine ⟨x,hx,rfl,?_⟩;rw [List.find?_eq_some_iff_getElem];obtain ⟨hl,e⟩:=Hd.mp hx;refine ⟨(fq _ _ (aw.mp ky).1 (aw.mp ky).1).mpr rfl,j,hl,e,fun i hi=>?_⟩;have hil:i < xs.length:=by omega
 cases q:PyData.eqv xs[i].1 x.1 with
 | false=>rfl
 | true =>
  have z:=(fq _ _ (aw.mp (kr _ (Iv hil)).1).1 (aw.mp ky).1).mp q;have e1:(xs.map (·.1))[i]?=some x.1:=by rw [Hi,Hc hil,JH,z]
  have e2:(xs.map (·.1))[j]?=some x.1:=by rw [Hi,hx];rfl
  have:=(ID (by rw [Hb];exact hil) nd).mp (e1.trans e2.symm);omega
theorem qz (kr:gX s.heap xs) (ky:kyB k=true) (h:∀ j:Nat,(xs.map (·.1))[j]?≠some k):xs.find? (fun x=>PyData.eqv x.1 k)=none:=by
 rw [List.find?_eq_none];intro x hx q;have z:=(fq _ _ (aw.mp (kr x hx).1).1 (aw.mp ky).1).mp q;obtain ⟨j,hj⟩:=Ij.mp hx;exact h j (by rw [Hi,hj,JH,z])
theorem xC {Q:Option Value->Shared->Prop} (hu:A.units+6 < cLine) (I:Inv X pins σ H s) (e:H a=some (.dD ep xs)) (kr:gX s.heap xs) (hk:Reads s.heap u k as) (ky:kyB k=true)
  (q:∀ t ov,CM (lA xs k) ov->Q ov { s with toks:=t }):wpAny (model X.prog X.w) A (dictGet a u) Q E s:=by
 obtain ⟨z,hd,nd,o,es,g1,g2,g3,g4⟩:=(show aR X.prog X.w H s.heap a (.dD ep xs) from I.hok _ _ e);unfold dictGet;refine HR (Ha (vh 6 hk (aw.mp ky).1 (aw.mp ky).2.2 hu fun t=>?_));refine Ha (qa (s:={ s with toks:=t }) hu hk ky g1 g3 (me (P:=X.prog) kr nd g4) (fun hno=>?_) fun j hj=>?_)
 ·refine He (q _ _ ?_);unfold lA;rw [qz (s:=s) kr ky hno];exact True.intro
 ·obtain ⟨x,hx,e1,e2⟩:=qQ (s:=s) kr nd ky hj;obtain ⟨en,h1,h2,h3,h4⟩:=bt g4 j x hx;refine Ha (Iq (s:={ s with toks:=t }) g1 g3 (He (q _ _ ?_)));unfold lA;rw [e2,show es[j]?=some en by simpa using h1];exact h4
theorem dr (I:Inv X pins σ H s) (e:H a=some (.dD ep xs)):s.TypeIs (.ref a) "dict" /\ (a==sysModules)=false:=by
 obtain ⟨z,hd,nd,o,es,g1,g2,g3,g4⟩:=(show aR X.prog X.w H s.heap a (.dD ep xs) from I.hok _ _ e);exact ⟨⟨o,g1,g2.1⟩,hd⟩
theorem Bv {v:V} {Q:Value->Shared->Prop} (hu:A.units+7 < cLine) (I:Inv X pins σ H s) (e:H a=some (.dD ep xs)) (kr:gX s.heap xs) (hk:Reads s.heap u k as) (ky:kyB k=true) (hv:lA xs k=some v)
  (q:∀ t w',RelV v w'->Q w' { s with toks:=t }):wpAny (model X.prog X.w) A (getItem (.ref a) u) Q E s:=by
 obtain ⟨T,_⟩:=dr I e;unfold getItem;refine HR (Ha (wpAny_sequenceKey T (by decide) (Ha (IX (name:=Str.ofString "__getitem__") T slot_dict_getitem (Ib slot_dict_getitem T entry_dict_getitem ?_ (args_dict_getitem _ _))))));refine Ha (m:=dictGet a u) (xC (by have:A.in1.units=A.units+1:=rfl;omega) I e kr hk ky fun t ov r=>?_);rw [hv] at r;cases ov with
 | none=>cases r
 | some w'=>exact He ⟨w',rfl,He (q t w' r)⟩
theorem E6 {Q:Bool->Shared->Prop} (hu:A.units+7 < cLine) (I:Inv X pins σ H s) (e:H a=some (.dD ep xs)) (kr:gX s.heap xs) (hk:Reads s.heap u k as) (ky:kyB k=true)
  (q:∀ t,Q (lA xs k).isSome { s with toks:=t }):wpAny (model X.prog X.w) A (contains (.ref a) u) Q E s:=by
 obtain ⟨T,hd⟩:=dr I e;unfold contains;refine HR (Ha (JD T slot_dict_contains.lookup ?_));show wpAny _ _ (if (some (Value.builtin "dict.__contains__")==some Value.none)=true then _ else _) _ E s;rw [Hv (by rw [beq_builtin_none];exact HQ)];refine Ha (wpAny_callSpecialUnlessNone?_slot (name:=Str.ofString "__contains__") T slot_dict_contains (Ib slot_dict_contains T entry_dict_contains ?_ (args_dict_contains _ _)));refine Ha (m:=dictGet a u) (xC (by have:A.in1.units=A.units+1:=rfl;omega) I e kr hk ky fun t ov r=>?_);cases hv:lA xs k with
 | some v =>
  rw [hv] at r;cases ov with
  | none=>cases r
  | some w' =>
   show wpAny _ _ (ret (.bool true)) _ _ _;have:=q t;rw [hv] at this;exact He ⟨_,rfl,HV this⟩
 | none =>
  rw [hv] at r;cases ov with
  | some w'=>cases r
  | none =>
   show wpAny _ _ (Builtin.Dict.pendingKey? a u>>=_) _ _ _;have:=q t;rw [hv] at this;exact Ha (wpAny_pendingKey_other hd (He ⟨_,rfl,HV this⟩))
theorem nv {j v:V}:(nt xs k j v).length<=xs.length+1:=by
 unfold nt;split
 ·rw [Hb];omega
 ·rw [Hq];exact Hl _
theorem nL {j v:V} (h:xs.find? (fun x=>PyData.eqv x.1 k)=none):nt xs k j v=xs++[(k,j,v)]:=by
 unfold nt;rw [Hv];rw [IK];rintro ⟨x,hx,q⟩;exact absurd q (by simpa using List.find?_eq_none.mp h x hx)
theorem oo {j v:V} {x:PyData×V×V} (h:xs.find? (fun x=>PyData.eqv x.1 k)=some x):nt xs k j v=xs.map (fun x=>if PyData.eqv x.1 k=true then (x.1,x.2.1,v) else x):=by
 unfold nt;rw [Ht];rw [IK];exact ⟨x,List.mem_of_find?_eq_some h,by simpa using List.find?_some h⟩
theorem rW {w:World} {h:Heap} {v:V} {r:Value} (ky:kyB k=true) (rv:RelV v r):∀ {xs:List (PyData×V×V)} {es:List DictEntry} {i:Nat},gX h xs->(xs.map (·.1)).Nodup->(xs.map (·.1))[i]?=some k->Paired (uM w) xs es ->
  Paired (uM w) (xs.map (fun x=>if PyData.eqv x.1 k=true then (x.1,x.2.1,v) else x)) (es.modify i fun e=>{ e with val:=r })
 | [],es,i,_,_,hi,_=>by simp at hi
 | x :: xs,es,i,kr,nd,hi,p=>by
  cases p with
  | @cons _ e _ es' h1 h2 =>
   have ky':=(kr x Hu).1;rw [List.map_cons,HZ] at nd;have off:∀ {ys:List (PyData×V×V)} {fs:List DictEntry},k ∉ ys.map (·.1)->gX h ys->Paired (uM w) ys fs->Paired (uM w) (ys.map (fun x=>if PyData.eqv x.1 k=true then (x.1,x.2.1,v) else x)) fs:=by
    intro ys fs hn kr' q;have:(ys.map (fun x=>if PyData.eqv x.1 k=true then (x.1,x.2.1,v) else x))=ys:=by
     refine (IM fun y hy=>?_).trans (List.map_id _);rw [Hv]
     ·rfl
     ·intro z;exact hn (Hk.mpr ⟨y,hy,(fq _ _ (aw.mp (kr' y hy).1).1 (aw.mp ky).1).mp z⟩)
    rw [this];exact q
   cases i with
   | zero =>
    simp at hi;subst hi;rw [List.map_cons,Ht ((fq _ _ (aw.mp ky).1 (aw.mp ky).1).mpr rfl)];exact .cons ⟨h1.1,h1.2.1,rv⟩ (off nd.1 (fun y hy=>kr y (Hm _ hy)) h2)
   | succ i =>
    have hi':(xs.map (·.1))[i]?=some k:=by simpa using hi
    have ne:x.1≠k:=fun z=>nd.1 (by rw [z];exact HB hi');rw [List.map_cons,Hv fun z=>ne ((fq _ _ (aw.mp ky').1 (aw.mp ky).1).mp z)];exact .cons h1 (rW ky rv (fun y hy=>kr y (Hm _ hy)) nd.2 hi' h2)
theorem CZ {j v:V} {r:Value} {Q:Unit->Shared->Prop} (hu:A.units+7 < cLine) (I:Inv X pins σ H s) (e:H a=some (.dD ep xs)) (kr:gX s.heap xs) (hk:Reads s.heap u k as) (ky:kyB k=true) (rj:RelV j u) (rv:RelV v r) (hl:xs.length < sizeLine)
  (q:∀ ep' s',Inv X pins σ (upd H a (.dD ep' (nt xs k j v))) s'->Q () s'):wpAny (model X.prog X.w) A (setItem (.ref a) u r) Q E s:=by
 obtain ⟨T,hd⟩:=dr I e;obtain ⟨z,_,nd,o,es,g1,g2,g3,g4⟩:=(show aR X.prog X.w H s.heap a (.dD ep xs) from I.hok _ _ e);have hsz:es.size=xs.length:=by rw [Im g4];simp
 unfold setItem;refine HR (Ha (wpAny_sequenceKey T (by decide) (Ha (IX (name:=Str.ofString "__setitem__") T slot_dict_setitem (Ib slot_dict_setitem T entry_dict_setitem ?_ (args_dict_setitem _ _ _))))));refine Ha (m:=Builtin.Dict.notOrdered "__setitem__" ⟨[.ref a,u,r],[]⟩) (wpAny_notOrdered_dict T ?_);refine Ha (m:=dictSet a u r) ?_;unfold dictSet dictSetHashed;refine HR (Ha (vh 6 hk (aw.mp ky).1 (aw.mp ky).2.2 (by have:A.in1.units=A.units+1:=rfl;omega) fun t=>HR ?_));have hl':(nt xs k j v).length<=sizeLine:=by have:=nv (xs:=xs) (k:=k) (j:=j) (v:=v);omega
 refine Ha (qa (s:={ s with toks:=t }) (by have:A.in1.units=A.units+1:=rfl;omega) hk ky g1 g3 (me (P:=X.prog) kr nd g4) (fun hno=>?_) fun i hi=>?_)
 ·have fn:=qz (s:=s) kr ky hno;refine Ha (IH (wpAny_updateDictKeys (s:={ s with toks:=t }) (hz:=by omega) g1 g3 (He ⟨.none,rfl,He (q (ep+1) _ (lH (t':=t) (I.tok t) (by rw [e];exact True.intro) (IP ..) ⟨_,Iy _ g1 (Obj.isFreed_of_dict (Obj.data_mapDictKeys g3 _))⟩ ?_))⟩)));refine ⟨hl',hd,?_,_,_,Iy _ g1 (Obj.isFreed_of_dict (Obj.data_mapDictKeys g3 _)),g2.mapDictKeys _,Obj.data_mapDictKeys g3 _,?_⟩
  ·rw [nL fn,HH,IY];refine ⟨nd,by simp,fun y hy z hz=>?_⟩;simp only [List.map_cons,List.map_nil,Hj] at hz;subst hz;rintro rfl;obtain ⟨i,hi⟩:=Ij.mp hy;exact hno i hi
  ·rw [nL fn,Array.toList_push];exact Paired.snoc g4 ⟨rfl,rj,rv⟩
 ·obtain ⟨x,hx,e1,e2⟩:=qQ (s:=s) kr nd ky hi;refine Ha (IH (Ha (wpAny_updateDict (s:={ s with toks:=t }) g1 g3 (wpAny_point (He ⟨.none,rfl,He (q ep _ (lH (t':=t) (I.tok t) (by rw [e];exact True.intro) (IP ..) ⟨_,Iy _ g1 (Obj.isFreed_of_dict (Obj.data_mapDict g3 _))⟩ ?_))⟩)))));refine ⟨hl',hd,?_,_,_,Iy _ g1 (Obj.isFreed_of_dict (Obj.data_mapDict g3 _)),g2.mapDict _,Obj.data_mapDict g3 _,?_⟩
  ·rw [oo e2,HX];have:(xs.map ((fun x:PyData×V×V=>x.1)∘fun y=>if PyData.eqv y.1 k=true then (y.1,y.2.1,v) else y))=xs.map (·.1):=IM fun y _=>by
    show (if PyData.eqv y.1 k=true then (y.1,y.2.1,v) else y).1=y.1;split <;> rfl
   rw [this];exact nd
  ·rw [oo e2,Array.toList_modify];exact rW ky rv kr nd hi g4
end
open PySem PySem.Spec PyProof.Rows
section
variable {P:Program} {w:World} {A:Around} {E:Value->Shared->Prop} {s:Shared} {it d:Addr} {o od:Obj} {es:Array DictEntry} {i ep:Nat}
theorem zI {Q:Value->Shared->Prop} (hd:(d==sysModules)=false) (g1:s.heap.get? d=some od) (g2:od.ExactDict) (g3:od.data=.dict es ep)
  (q:Q (.ref s.heap.objs.size) { s with heap:=s.heap.push { cls:=.type "dict_keyiterator", data:=.fields #[.ref d,.int 0 0,.int es.size 0,.int ep 0] } }):wpAny (model P w) A (pyIter (.ref d)) Q E s:=by
 have T:s.TypeIs (.ref d) "dict" := ⟨od,g1,g2.1⟩;refine wpAny_pyIter_slot T F.slot_dict_iter (Ib F.slot_dict_iter T F.entry_dict_iter ?_ (F.args_dict_iter_1 _));unfold Builtin.«dict.__iter__» Builtin.Dict.dictSlotNone
 refine Ha (Ha (wpAny_notOrdered_dict T ?_));show wpAny _ _ (pure (Value.ref d):Sem Value) _ _ s;refine He ?_;show wpAny _ _ (Builtin.Dict.showsAll d>>=_) _ _ s;unfold Builtin.Dict.showsAll;rw [Hv (by rw [hd];exact HQ)];refine Ha (He (Ha (Iq g1 g3 (Ha (Ii g1 g3 ?_)))));exact Ha (Ip (He ⟨_,rfl, "dict_keyiterator", _,⟨_,HC _ rfl,rfl⟩,Jf.lookup,q⟩))
theorem Bd {Q:Option Value->Shared->Prop} (hit:s.heap.IsKeyIter it d i es.size ep) (g1:s.heap.get? d=some od) (g3:od.data=.dict es ep) {e:DictEntry} (he:es[i]?=some e)
  (q:∀ h',h'.IsKeyIter it d (i+1) es.size ep->Heap.SameBut it s.heap h'->Q (some e.key) { s with heap:=h' }):wpAny (model P w) A (pyNext (.ref it)) Q E s:=by
 obtain ⟨ob,ho,hc,hd⟩:=id hit;have T:=hit.typeIs;unfold pyNext;refine Ha (wpAny_attempt (IX (name:=Str.ofString "__next__") T Jf (Ib Jf T F.entry_dict_keyiterator_next ?_ (F.args_dict_keyiterator_next_1 _))));refine Ha (He (Ha (Ha ?_)));first | refine Ha (Jc T (He (Ha (wpAny_fieldsOf ho hd ?_)))) | refine Ha (Js T (He (Ha (wpAny_fieldsOf ho hd ?_))))
 simp only [show Builtin.Dict_items.ownsTuple "dict_keyiterator" = false by decide,Iw,IG];show wpAny _ _ (if (Value.ref d==Value.none)=true then _ else _) _ _ s;rw [Hv (show ¬((Value.ref d==Value.none)=true) from HQ)];refine Ha (He (Ha (Iq g1 g3 ?_)));rw [Hv (by simp)];refine Ha (He (Ha (Ii g1 g3 ?_)));rw [Hv (by simp)];refine He ?_;simp only [show ¬((i:Int) < 0) from by omega,IG,Jr,he];refine Ha ?_;first | refine Ha (Jc T (He (Ha (wpAny_isOneOf_keyiter T ?_)))) | refine Ha (Js T (He (Ha (wpAny_isOneOf_keyiter T ?_))))
 show wpAny _ _ (setField (.ref it) 1 (rawInt ((i:Int)+1))>>=_) _ _ s;have hit':(s.heap.update it (Obj.mapFields (·.setIfInBounds 1 (rawInt ((i:Int)+1))))).IsKeyIter it d (i+1) es.size ep :=
  ⟨_,Iy _ ho (Obj.isFreed_of_fields (Obj.data_mapFields hd _)),(Obj.cls_mapFields ..).trans hc,by rw [Obj.data_mapFields hd];simp [rawInt]⟩
 refine Ha (wpAny_setField ho hd (by simp) (Ha (HR ?_)));refine Ha (wpAny_isOneOf_keyiter (s:={ s with heap:=s.heap.update it (Obj.mapFields (·.setIfInBounds 1 (rawInt ((i:Int)+1)))) }) hit'.typeIs ?_);show wpAny _ _ (pure e.key:Sem Value) _ _ _;exact He (He ⟨_,rfl,He (q _ hit' (IP ..))⟩)
theorem Dg {Q:Option Value->Shared->Prop} (hh:A.handled=none) (hit:s.heap.IsKeyIter it d i es.size ep) (g1:s.heap.get? d=some od) (g3:od.data=.dict es ep) (he:es.size<=i)
  (q:∀ h',Heap.ExtBut it s.heap h'->Q none { s with heap:=h' }):wpAny (model P w) A (pyNext (.ref it)) Q E s:=by
 obtain ⟨ob,ho,hc,hd⟩:=id hit;have T:=hit.typeIs;unfold pyNext;refine Ha (wpAny_attempt (IX (name:=Str.ofString "__next__") T Jf (Ib Jf T F.entry_dict_keyiterator_next ?_ (F.args_dict_keyiterator_next_1 _))));refine Ha (He (Ha (Ha ?_)));first | refine Ha (Jc T (He (Ha (wpAny_fieldsOf ho hd ?_)))) | refine Ha (Js T (He (Ha (wpAny_fieldsOf ho hd ?_))))
 simp only [show Builtin.Dict_items.ownsTuple "dict_keyiterator" = false by decide,Iw,IG];show wpAny _ _ (if (Value.ref d==Value.none)=true then _ else _) _ _ s;rw [Hv (show ¬((Value.ref d==Value.none)=true) from HQ)];refine Ha (He (Ha (Iq g1 g3 ?_)));rw [Hv (by simp)];refine Ha (He (Ha (Ii g1 g3 ?_)));rw [Hv (by simp)];refine He ?_;simp only [show ¬((i:Int) < 0) from by omega,IG,Jr,JB he];refine Ha ?_;first | refine Ha (Jc T (He ?_)) | refine Ha (Js T (He ?_))
 show wpAny _ _ (setField (.ref it) 0 .none>>=_) _ _ s;refine Ha (wpAny_setField ho hd (by simp) ?_);show wpAny _ _ (newExc (.type "StopIteration") []>>=_) _ _ _;refine Ha ?_;simp only [newExc,newTuple];refine Ha (Ip (Ha (m:=firstArgMember _ _) (wpAny_of_eq (a:=Value.none) (by first | rfl | (simp only [firstArgMember];rfl)) (Ip ?_ (by size_fits)))) (by size_fits));simp only [raiseNew];refine Ha (wpAny_handled ?_);rw [show A.in1.handled=none from hh];refine Ha (He (wpAny_throw ?_));refine Ha (wpAny_isInstance (b:=true) (T := "StopIteration") ⟨_,HC _ rfl,rfl⟩ isSubtype_stop ?_);exact He (q _ (((IP ..).extBut.push _).push _))
end
def Itd (a:Addr) (ep:Nat) (xs:List (PyData×V×V)):It :=
 ⟨fun i H=>H a=some (.dD ep xs)/\i < xs.length,fun i H x H'=>H'=H/\(xs[i]?).map (·.2.1)=some x,fun i H=>H a=some (.dD ep xs)/\xs.length<=i⟩
def GR (tl:TE):TI:=fun σ H R=>tl σ H fun x H1=>∃ a ep xs,x=.ref a/\H1 a=some (.dD ep xs)/\R (Itd a ep xs) H1
open PySem PySem.Spec PyProof.Rows
section
variable {X:Cx} {pins:List (Addr×Obj)} {σ:List (Option V)} {H:Hp} {s:Shared} {h':Heap}
theorem Inv.DX {ch:List Addr} {p:Addr} {o:HO} (I:Inv X pins σ H s) (hc:∀ b∈ch,tW X pins H b) (hp:s.heap.objs.size<=p) (hs:∀ b u,b ∉ ch->s.heap.get? b=some u->h'.get? b=some u) (new:aR X.prog X.w (upd H p o) h' p o):Inv X pins σ (upd H p o) { s with heap:=h' }:=by
 have nH:H p=none:=I.hok.fresh hp;have nd:∀ b u,H b=some u->b≠p:=fun b u e z=>by rw [z,nH] at e;cases e
 have nc:∀ b u,H b=some u->b ∉ ch:=fun b u e z=>by rw [(hc b z).1] at e;cases e
 have np:∀ b u,s.heap.get? b=some u->b≠p:=fun b u e=>HI (Hy (Hw e) hp);refine I.step (t':=s.toks) (g':=s.gens) (d':=s.drawn) (ch:=ch) (fun b hb=>⟨(hc b hb).2.2.2.1,(hc b hb).2.1,(hc b hb).2.2.2.2.1,(hc b hb).2.2.2.2.2⟩) (fun b o _ _ hb e _=>hs b o hb e) (fun b o _ _ hb e _=>⟨o.slots,hs b o hb e⟩) (fun b u hb e n=>by rw [af (np b u e)];exact n)
  (fun b o hb e=>⟨o,hs b o hb e⟩) (fun b xs e=>by rw [af (nd b _ e)];exact e) (fun b o u e=>by rw [af (nd b _ e)];exact e) (fun b ps e=>⟨#[],by rw [af (nd b _ e),e];simp⟩) (fun m hm=>?_) (fun b u e=>?_) I.bare
 ·obtain ⟨o,es,ep,ho,r⟩:=hm;exact ⟨o,es,ep,hs _ o (fun z=>(hc _ z).2.1 rfl) ho,r⟩
 ·by_cases z:b=p
  ·subst z;rw [ah] at e;cases e;exact new
  ·rw [af z] at e;refine (I.hok b u e).kO (fun c v hc' q=>?_) (fun c q=>by rw [af (nd c _ q)];exact q) fun c xs q=>by rw [af (nd c _ q)];exact q
   rcases hc' with rfl | hc'
   ·exact hs _ _ (nc _ _ e) q
   ·exact hs _ _ (nc c _ hc') q
end
def Itz (K:Fg) (a b:Addr) (xs ys:List V):It :=
 ⟨fun i H=>SqL K H a xs/\SqL K H b ys/\i < xs.length/\i < ys.length,fun i H x H'=>∃ p u v,H p=none/\x=.ref p/\xs[i]?=some u/\ys[i]?=some v/\H'=upd H p (.tup [u,v]),fun i H=>SqL K H a xs/\SqL K H b ys/\(xs.length<=i\/ys.length<=i)⟩
def F7 (K:Fg) (t:TA):TI:=fun σ H R=>t σ H fun vs H1=>∃ a b xs ys,vs=[.ref a,.ref b]/\SqL K H1 a xs/\SqL K H1 b ys/\R (Itz K a b xs ys) H1
open PySem PySem.Spec PyProof.Rows
def TkX (xs:List (PyData×V×V)):Prop:=∀ x∈xs,∃ t,x.1=.str t/\x.2.1=.str t
abbrev VX (xs:List (PyData×V×V)) (vs:List (Key×Value)):Prop:=Paired (fun (x:PyData×V×V) (kv:Key×Value)=>∃ t,x.1=.str t/\x.2.1=.str t/\kv.1=Sum.inr t/\RelV x.2.2 kv.2) xs vs
theorem om {P:Program} {w:World}:∀ {xs:List (PyData×V×V)} {es:List DictEntry},TkX xs->Paired (uM w) xs es->∃ vs,VX xs vs/\Pairs (aj P w) es vs/\∀ e∈es,∃ k,(aj P w).is k e.key=true/\e.hash=(aj P w).hash k
 | [],_,_,q=>by cases q;exact ⟨[],.nil,.nil,fun e he=>by cases he⟩
 | x :: xs,_,tk,q=>by
  cases q with
  | @cons _ e _ es h q =>
   obtain ⟨vs,r1,r2,r3⟩:=om (P:=P) (fun y hy=>tk y (Hm _ hy)) q;obtain ⟨t,e1,e2⟩:=tk x Hu;obtain ⟨h1,h2,h3⟩:=h;rw [e2] at h2;rw [e1] at h1;obtain ⟨tk,hk⟩:=h2;have ki:(aj P w).is (.inr t) e.key=true:=by rw [hk];exact gu P w t tk
   refine ⟨(.inr t,e.val) :: vs,.cons ⟨t,e1,e2,rfl,h3⟩ r1,.cons ki rfl r2,fun y hy=>?_⟩;rcases Hz.mp hy with rfl | hy
   ·exact ⟨.inr t,ki,h1.trans (md w (.inr t))⟩
   ·exact r3 y hy
theorem lF:∀ {xs:List (PyData×V×V)} {vs:List (Key×Value)},VX xs vs->xs.map (·.1)=(vs.map (·.1)).map kD
 | [],_,q=>by cases q;rfl
 | x :: xs,_,q=>by
  cases q with
  | @cons _ kv _ vs h q =>
   obtain ⟨t,e1,e2,e3,e4⟩:=h;rw [List.map_cons,List.map_cons,List.map_cons,lF q,e1,e3];rfl
section
variable {X:Cx} {pins:List (Addr×Obj)} {σ:St} {H:Hp} {s:Shared} {a:Addr} {ep:Nat} {xs:List (PyData×V×V)}
theorem rp (I:Inv X pins σ H s) (e:H a=some (.dD ep xs)) (tk:TkX xs):(a==sysModules)=false/\xs.length<=sizeLine/\∃ vs,VX xs vs/\s.heap.DictAt (aj X.prog X.w) a vs ep:=by
 obtain ⟨z,hd,nd,o,es,g1,g2,g3,g4⟩:=(show aR X.prog X.w H s.heap a (.dD ep xs) from I.hok _ _ e);obtain ⟨vs,r1,r2,r3⟩:=om (P:=X.prog) tk g4;refine ⟨hd,z,vs,r1,o,es,g1,g2,g3,fun e he=>r3 e (Array.mem_toList_iff.mpr he),r2,?_⟩;rw [lF r1] at nd;exact List.Pairwise.of_map kD (fun _ _ n z=>n (by rw [z])) nd
end
theorem wu:entryFor table "dict_itemiterator.__iter__" = some Builtin.«dict_keyiterator.__iter__»:=by refine entryFor_alias (id' := "dict_keyiterator.__iter__") ?_ rfl (by decide +kernel) ?_ <;> kernel_rfl
def Iti (a:Addr) (ep:Nat) (xs:List (PyData×V×V)):It :=
 ⟨fun i H=>H a=some (.dD ep xs)/\TkX xs/\i < xs.length,fun i H x H'=>∃ p y,H p=none/\x=.ref p/\xs[i]?=some y/\H'=upd H p (.tup [y.2.1,y.2.2]),fun i H=>H a=some (.dD ep xs)/\TkX xs/\xs.length<=i⟩
theorem uN {P:Program} {w:World} {K:Fg} {elts:List Expr} {c:Nat} {pos:Pos} (a it:Addr) (ep:Nat) (xs:List (PyData×V×V)):Turn P w K (.Tuple elts c pos) (Iti a ep xs) [it] it (fun i h=>∃ u v,IsItemIter h it a i xs.length ep u v) where
 mem:=by simp
 obj:=fun i h st b hb=>by
  have e:b=it:=by simpa using hb
  subst e;obtain ⟨u,v,e⟩:=st;exact ⟨_,e,fun v z=>nomatch z⟩
 keep:=fun i h h' st k=>let ⟨u,v,e⟩:=st;⟨u,v,k it (by simp) _ e⟩
 item:=by
  intro X hP hw hK hc i pins s σ H E I hf st hg;subst hP hw hK;obtain ⟨u,v,st⟩:=st;obtain ⟨e,tk,hlt⟩:=hg;obtain ⟨hd,z,vs,r1,dat⟩:=rp I e tk;have hl:vs.length=xs.length:=(Im r1).symm;rw [<- hl] at st;obtain ⟨y,hy,t,e1,e2,e3,e4⟩:=bt r1 i xs[i] (Hc hlt);obtain ⟨k,v1⟩:=y;have e3:k=.inr t:=e3;subst e3;refine wpAny_pyNext_items_item (knd:=aj X.prog X.w) st dat hy fun key h' hkey a1 a2 a3 a4=>⟨_,rfl,?_⟩;refine wpAny_letOwnedTupleGo_items a1 fun h2 hz' sb=>?_;obtain ⟨tt,hk⟩:∃ tt,key=.str t tt:=by
   rcases aq (show jy (.inr t) key=true from hkey) with ⟨i,t,q,_⟩ | ⟨x,tt,q,q2⟩
   ·cases q
   ·cases q;exact ⟨tt,q2⟩
  subst hk;have ne:s.heap.objs.size≠it:=Jh (Hw st);have keep:∀ b o,b ∉ [it]->s.heap.get? b=some o->h2.get? b=some o:=fun b o hb q=>(sb.2 b (by simpa using hb)).trans (a4 b o (by simpa using hb) q);have In:Inv X pins σ (upd H s.heap.objs.size (.tup [xs[i].2.1,xs[i].2.2])) { s with heap:=h2 }:=I.DX hf (Hl _) keep ⟨by rw [Io];exact Nat.le_of_ble_eq_true rfl,[.str t tt,v1],.cons (by rw [e2];exact ⟨tt,rfl⟩) (.cons e4 .nil),⟨_,(sb.2 _ ne).trans a2,rfl,0,rfl⟩⟩;refine ⟨.ref s.heap.objs.size,_,In,rfl,⟨_,_,I.hok.fresh (Hl _),rfl,Hc hlt,rfl⟩,⟨_,_,by rw [<- hl];exact hz'⟩,fun b hb=>?_⟩;have:=hf b hb;rw [af]
  ·exact this.1
  ·intro q;rw [show b=it by simpa using hb] at q;exact ne q.symm
 done:=by
  intro X hP hw hK hc i pins s σ H E I hf st hg;subst hP hw hK;obtain ⟨u,v,st⟩:=st;obtain ⟨e,tk,hle⟩:=hg;obtain ⟨hd,z,vs,r1,dat⟩:=rp I e tk;have hl:vs.length=xs.length:=(Im r1).symm;obtain ⟨f0,f1,f2,f3,f4,f5⟩:=hf it (by simp);rw [<- hl] at st;exact wpAny_pyNext_items_end (knd:=aj X.prog X.w) (I.ok.hd hc) st dat (by rw [JN];omega) fun h' eb=>⟨rfl,I.turned (t':=s.toks) (fun b o hb e=>eb b o hb e) f0 f1 f3 f4 f5⟩
 self:=fun A i s Q E st h=>by
  obtain ⟨u,v,st⟩:=st;have T:s.TypeIs (.ref it) "dict_itemiterator" := ⟨_,st,rfl⟩;refine wpAny_pyIter_slot T F.slot_dict_itemiterator_iter (Ib F.slot_dict_itemiterator_iter T wu ?_ (F.args_dict_itemiterator_iter_1 _));show wpAny _ _ (ret (.ref it)) _ _ s;exact He ⟨_,rfl, "dict_itemiterator", _,T,F.slot_dict_itemiterator_next.lookup,h⟩
def Cj (tl:TE):TI:=fun σ H R=>tl σ H fun x H1=>∃ a ep xs,x=.ref a/\H1 a=some (.dD ep xs)/\TkX xs/\R (Iti a ep xs) H1
theorem BD {X:Cx} {elts:List Expr} {c:Nat} {pt apos pos:Pos} {l:Expr} {tl:TE} (hl:PE X l tl) (hbase:attributeBase l "items" X.env (eval l X.env)=eval l X.env) (hline:(apos.endLine==pos.line)=true):PI X (.Tuple elts c pt) (.Call (.Attribute l "items" apos) [] [] pos) (Cj tl):=by
 intro pins s σ H R I h;refine wpAny_Call_method0_late hbase hline (thn (hl pins s σ H _ I h) fun v s1 ⟨x,H1,I1,r1,a,ep,xs,e,ea,tk,q⟩=>?_);subst e;cases r1;obtain ⟨hd,z,vs,rv,dat⟩:=rp I1 ea tk;have hl:vs.length=xs.length:=(Im rv).symm;refine ⟨"dict", "dict.items", F.plainAttrs_dict,F.slot_dict_items,F.type_dict_items,dat.dictOf.typeIs,dat.dictOf.mapOf.noDict,?_⟩;refine method_meetsIn F.slot_dict_items F.entry_dict_items rfl (PySem.evalArgs_none ⟨rfl,dat.dictOf.typeIs,F.args_dict_items_1 _,_,meets_dict_items (aj X.prog X.w) a hd,⟨vs,dat.dictOf⟩,?_⟩);refine wpAny_pyIter_items (knd:=aj X.prog X.w) (d:=a) (kvs:=vs) (ep:=ep) ⟨_,HC _ rfl,rfl,rfl⟩ (dat.push _) ?_;have I2:Inv X pins σ H1 { s1 with heap:=s1.heap.push { cls:=.type "dict_items", data:=.fields #[.ref a] } }:=I1.kept (t':=s1.toks) fun b o e=>Hg _ e;refine ⟨_,[_],_,_,H1,rfl,I2.kept (t':=s1.toks) fun b o e=>Hg _ e,uN a _ ep xs,⟨_,_,by rw [<- hl];exact HC _ rfl⟩,fun b hb=>?_,q⟩;have e:b=(s1.heap.push { cls:=.type "dict_items", data:=.fields #[.ref a] }).objs.size:=by simpa using hb
 subst e;exact I2.yK (Hl _) (I2.hok.fresh (Hl _))
open PySem
def Gh (K:Fg) (a:Addr) (xs:List V):Prop:=∃ (o:Obj) (its:Array Value) (n:Nat),K.lookup a=some o/\o.cls=.type "list" /\ o.dict=none/\o.data=.seq its n/\its.size<=sizeLine/\Vals xs its.toList
def LsF (K:Fg) (F:Addr->Prop) (H:Hp) (a:Addr) (xs:List V):Prop:=(¬F a/\Rd H a (.lst xs))\/Gh K a xs
mutual
def Dm (K:Fg) (F:Addr->Prop) (H:Hp):PyData->V->Prop
 | .none,v=>v=.non
 | .bool b,v=>v=.bl b
 | .int i,v=>v=.int i
 | .str x,v=>v=.str x/\x.length<=sizeLine/\PyData.strOk x=true
 | .list ds,v=>∃ a xs,v=.ref a/\LsF K F H a xs/\xs.length<=sizeLine/\DmL K F H ds xs
 | .tuple ds,v=>∃ a xs,v=.ref a/\SqT K H a xs/\xs.length<=sizeLine/\DmL K F H ds xs
 | .dict kvs,v=>∃ a ep xs,v=.ref a/\¬F a/\H a=some (.dD ep xs)/\xs.length<=sizeLine/\DmP K F H kvs xs
def DmL (K:Fg) (F:Addr->Prop) (H:Hp):List PyData->List V->Prop
 | [],vs=>vs=[]
 | d :: ds,vs=>∃ v r,vs=v :: r/\Dm K F H d v/\DmL K F H ds r
def DmP (K:Fg) (F:Addr->Prop) (H:Hp):List (PyData×PyData)->List (PyData×V×V)->Prop
 | [],vs=>vs=[]
 | (k,d) :: ds,vs=>∃ j v r,vs=(k,j,v) :: r/\hk6 k=true/\Dm K F H k j/\Dm K F H d v/\DmP K F H ds r
end
noncomputable def Wr:HO->Bool | .lst _=>true | .dD _ _=>true | _=>false
def Pr (F:Addr->Prop) (H H':Hp):Prop:=∀ b o,H b=some o->(¬F b\/Wr o=false)->H' b=some o
section
variable {K:PySem.W.Frag} {F F':Addr->Prop} {H H':Hp}
theorem SqT.pr {a:Addr} {xs:List V} (p:Pr F H H') (h:SqT K H a xs):SqT K H' a xs:=by
 rcases h with (h | ⟨o,h⟩) | h
 ·exact .inl (.inl (p _ _ h (.inr rfl)))
 ·exact .inl (.inr ⟨o,p _ _ h (.inr rfl)⟩)
 ·exact .inr h
theorem LsF.pr {a:Addr} {xs:List V} (p:Pr F H H') (hf:∀ b,F' b->F b) (h:LsF K F H a xs):LsF K F' H' a xs:=by
 rcases h with ⟨n,h | ⟨o,h⟩⟩ | h
 ·exact .inl ⟨fun z=>n (hf _ z),.inl (p _ _ h (.inl n))⟩
 ·exact .inl ⟨fun z=>n (hf _ z),.inr ⟨o,p _ _ h (.inl n)⟩⟩
 ·exact .inr h
mutual
theorem Dm.pr (p:Pr F H H') (hf:∀ b,F' b->F b):∀ {d:PyData} {v:V},Dm K F H d v->Dm K F' H' d v
 | .none,v,h=>h
 | .bool b,v,h=>h
 | .int i,v,h=>h
 | .str x,v,h=>h
 | .list ds,v,h=>by
  obtain ⟨a,xs,e,l,z,r⟩:=h;exact ⟨a,xs,e,l.pr p hf,z,DmL.pr p hf r⟩
 | .tuple ds,v,h=>by
  obtain ⟨a,xs,e,l,z,r⟩:=h;exact ⟨a,xs,e,l.pr p,z,DmL.pr p hf r⟩
 | .dict kvs,v,h=>by
  obtain ⟨a,ep,xs,e,n,l,z,r⟩:=h;exact ⟨a,ep,xs,e,fun q=>n (hf _ q),p _ _ l (.inl n),z,DmP.pr p hf r⟩
theorem DmL.pr (p:Pr F H H') (hf:∀ b,F' b->F b):∀ {ds:List PyData} {vs:List V},DmL K F H ds vs->DmL K F' H' ds vs
 | [],vs,h=>h
 | d :: ds,vs,h=>by
  obtain ⟨v,r,e,h1,h2⟩:=h;exact ⟨v,r,e,Dm.pr p hf h1,DmL.pr p hf h2⟩
theorem DmP.pr (p:Pr F H H') (hf:∀ b,F' b->F b):∀ {ds:List (PyData×PyData)} {vs:List (PyData×V×V)},DmP K F H ds vs->DmP K F' H' ds vs
 | [],vs,h=>h
 | (k,d) :: ds,vs,h=>by
  obtain ⟨j,v,r,e,e2,h0,h1,h2⟩:=h;exact ⟨j,v,r,e,e2,Dm.pr p hf h0,Dm.pr p hf h1,DmP.pr p hf h2⟩
end
theorem LsF.fresh {a c:Addr} {xs:List V} (hc:H c=none) (h:LsF K F H a xs):LsF K (fun b=>F b\/b=c) H a xs:=by
 rcases h with ⟨n,h⟩ | h
 ·refine .inl ⟨fun z=>z.elim n fun e=>?_,h⟩;subst e;rcases h with h | ⟨o,h⟩ <;> (rw [hc] at h;cases h)
 ·exact .inr h
mutual
theorem Dm.fresh {c:Addr} (hc:H c=none):∀ {d:PyData} {v:V},Dm K F H d v->Dm K (fun b=>F b\/b=c) H d v
 | .none,v,h=>h
 | .bool b,v,h=>h
 | .int i,v,h=>h
 | .str x,v,h=>h
 | .list ds,v,h=>by
  obtain ⟨a,xs,e,l,z,r⟩:=h;exact ⟨a,xs,e,l.fresh hc,z,DmL.fresh hc r⟩
 | .tuple ds,v,h=>by
  obtain ⟨a,xs,e,l,z,r⟩:=h;exact ⟨a,xs,e,l,z,DmL.fresh hc r⟩
 | .dict kvs,v,h=>by
  obtain ⟨a,ep,xs,e,n,l,z,r⟩:=h;exact ⟨a,ep,xs,e,fun q=>q.elim n fun q=>(by subst q;rw [hc] at l;cases l),l,z,DmP.fresh hc r⟩
theorem DmL.fresh {c:Addr} (hc:H c=none):∀ {ds:List PyData} {vs:List V},DmL K F H ds vs->DmL K (fun b=>F b\/b=c) H ds vs
 | [],vs,h=>h
 | d :: ds,vs,h=>by
  obtain ⟨v,r,e,h1,h2⟩:=h;exact ⟨v,r,e,Dm.fresh hc h1,DmL.fresh hc h2⟩
theorem DmP.fresh {c:Addr} (hc:H c=none):∀ {ds:List (PyData×PyData)} {vs:List (PyData×V×V)},DmP K F H ds vs->DmP K (fun b=>F b\/b=c) H ds vs
 | [],vs,h=>h
 | (k,d) :: ds,vs,h=>by
  obtain ⟨j,v,r,e,e2,h0,h1,h2⟩:=h;exact ⟨j,v,r,e,e2,Dm.fresh hc h0,Dm.fresh hc h1,DmP.fresh hc h2⟩
end
theorem Pr.refl:Pr F H H:=fun _ _ h _=>h
theorem Pr.trans {H1 H2:Hp} (a:Pr F H H1) (b:Pr F' H1 H2) (hf:∀ b,F' b->F b):Pr F H H2:=fun c o h n=>b c o (a c o h n) (n.imp (fun z q=>z (hf _ q)) id)
theorem Pr.of_same (a:ax H H'):Pr F H H':=fun c o h _=>a c o h
theorem Dm.mono (hf:∀ b,F' b->F b) {d:PyData} {v:V} (h:Dm K F H d v):Dm K F' H d v:=h.pr Pr.refl hf
theorem DmL.mono (hf:∀ b,F' b->F b) {d:List PyData} {v:List V} (h:DmL K F H d v):DmL K F' H d v:=h.pr Pr.refl hf
theorem DmL.len:∀ {ds:List PyData} {vs:List V},DmL K F H ds vs->vs.length=ds.length
 | [],vs,h=>by rw [show vs=[] from h];rfl
 | d :: ds,vs,h=>by
  obtain ⟨v,r,e,h1,h2⟩:=h;rw [e,Hx,Hx,DmL.len h2]
theorem DmL.get:∀ {ds:List PyData} {vs:List V} {i:Nat} {d:PyData},DmL K F H ds vs->ds[i]?=some d->∃ v,vs[i]?=some v/\Dm K F H d v
 | [],vs,_,_,h,e=>by simp at e
 | d :: ds,vs,0,d',h,e=>by
  obtain ⟨v,r,e1,h1,h2⟩:=h;simp at e;subst e;subst e1;exact ⟨v,rfl,h1⟩
 | d :: ds,vs,i+1,d',h,e=>by
  obtain ⟨v,r,e1,h1,h2⟩:=h;subst e1;obtain ⟨w,q1,q2⟩:=DmL.get (i:=i) h2 (by simpa using e);exact ⟨w,by simpa using q1,q2⟩
theorem DmL.get' {ds:List PyData} {vs:List V} {i:Nat} {v:V} (h:DmL K F H ds vs) (e:vs[i]?=some v):∃ d,ds[i]?=some d/\Dm K F H d v:=by
 have hl:=h.len;have hi:i < vs.length:=(Hd.mp e).1;have hd:ds[i]?=some (ds[i]'(by omega)):=Hc _;obtain ⟨w,e2,q⟩:=h.get hd;rw [e] at e2;cases e2;exact ⟨_,hd,q⟩
theorem DmL.app:∀ {ds es:List PyData} {vs ws:List V},DmL K F H ds vs->DmL K F H es ws->DmL K F H (ds++es) (vs++ws)
 | [],es,vs,ws,h,q=>by rw [show vs=[] from h];exact q
 | d :: ds,es,vs,ws,h,q=>by
  obtain ⟨v,r,e,h1,h2⟩:=h;subst e;exact ⟨v,r++ws,rfl,h1,DmL.app h2 q⟩
theorem DmL.snoc {ds:List PyData} {vs:List V} {d:PyData} {v:V} (h:DmL K F H ds vs) (q:Dm K F H d v):DmL K F H (ds++[d]) (vs++[v]):=h.app ⟨v,[],rfl,q,rfl⟩
def Top (K:PySem.W.Frag) (F:Addr->Prop) (H:Hp):PyData->Addr->Prop
 | .list ds,a=>∃ xs,H a=some (.lst xs)/\xs.length<=sizeLine/\DmL K F H ds xs
 | .dict kvs,a=>∃ ep xs,H a=some (.dD ep xs)/\xs.length<=sizeLine/\DmP K F H kvs xs
 | _,_=>False
def rm (K:PySem.W.Frag) (F:Addr->Prop) (H:Hp):PyData->Addr->Prop
 | .list ds,a=>∃ xs,SqL K H a xs/\xs.length<=sizeLine/\DmL K F H ds xs
 | .dict kvs,a=>∃ ep xs,H a=some (.dD ep xs)/\xs.length<=sizeLine/\DmP K F H kvs xs
 | _,_=>False
def Vw (K:PySem.W.Frag) (F:Addr->Prop) (H:Hp):PyData->V->Prop
 | .list ds,v=>∃ a,v=.ref a/\rm K F H (.list ds) a
 | .dict ds,v=>∃ a,v=.ref a/\rm K F H (.dict ds) a
 | d,v=>Dm K F H d v
theorem Top.r {d:PyData} {a:Addr} (h:Top K F H d a):rm K F H d a:=by
 cases d with
 | list ds=>obtain ⟨xs,e,z,r⟩:=h;exact ⟨xs,.inl (.inl e),z,r⟩
 | dict ds=>exact h
 | _=>exact h
theorem rm.vw {d:PyData} {a:Addr} (h:rm K F H d a):Vw K F H d (.ref a):=by
 cases d with
 | list ds=>exact ⟨a,rfl,h⟩
 | dict ds=>exact ⟨a,rfl,h⟩
 | _=>exact absurd h id
theorem Dm.vw {d:PyData} {v:V} (h:Dm K F H d v):Vw K F H d v:=by
 cases d with
 | list ds =>
  obtain ⟨a,xs,e,l,z,r⟩:=h;refine ⟨a,e,xs,?_,z,r⟩;rcases l with ⟨n,l⟩ | l
  ·exact .inl l
  ·exact .inr l
 | dict ds=>obtain ⟨a,ep,xs,e,n,l,z,r⟩:=h;exact ⟨a,e,ep,xs,l,z,r⟩
 | _=>exact h
theorem Top.dm {d:PyData} {a:Addr} (h:Top K F H d a) (n:¬F a):Dm K F H d (.ref a):=by
 cases d with
 | list ds=>obtain ⟨xs,e,z,r⟩:=h;exact ⟨a,xs,rfl,.inl ⟨n,.inl e⟩,z,r⟩
 | dict ds=>obtain ⟨ep,xs,e,z,r⟩:=h;exact ⟨a,ep,xs,rfl,n,e,z,r⟩
 | _=>exact absurd h id
theorem Top.wr {d:PyData} {a:Addr} (h:Top K F H d a):∃ o,H a=some o/\Wr o=true:=by
 cases d with
 | list ds=>obtain ⟨xs,e,_⟩:=h;exact ⟨_,e,rfl⟩
 | dict ds=>obtain ⟨ep,xs,e,_⟩:=h;exact ⟨_,e,rfl⟩
 | _=>exact absurd h id
theorem Top.pr {d:PyData} {a:Addr} (h:Top K F H d a) (p:Pr F H H') (hf:∀ b,F' b->F b) (ha:∀ o,H a=some o->H' a=some o):Top K F' H' d a:=by
 cases d with
 | list ds=>obtain ⟨xs,e,z,r⟩:=h;exact ⟨xs,ha _ e,z,r.pr p hf⟩
 | dict ds=>obtain ⟨ep,xs,e,z,r⟩:=h;exact ⟨ep,xs,ha _ e,z,r.pr p hf⟩
 | _=>exact absurd h id
theorem rm.pr {d:PyData} {a:Addr} (h:rm K F H d a) (p:Pr F H H') (hf:∀ b,F' b->F b) (ha:∀ o,H a=some o->H' a=some o):rm K F' H' d a:=by
 cases d with
 | list ds =>
  obtain ⟨xs,e,z,r⟩:=h;refine ⟨xs,?_,z,r.pr p hf⟩;rcases e with (e | ⟨o,e⟩) | e
  ·exact .inl (.inl (ha _ e))
  ·exact .inl (.inr ⟨o,ha _ e⟩)
  ·exact .inr e
 | dict ds=>obtain ⟨ep,xs,e,z,r⟩:=h;exact ⟨ep,xs,ha _ e,z,r.pr p hf⟩
 | _=>exact absurd h id
theorem Top.fresh {d:PyData} {a c:Addr} (hc:H c=none) (h:Top K F H d a):Top K (fun b=>F b\/b=c) H d a:=by
 cases d with
 | list ds=>obtain ⟨xs,e,z,r⟩:=h;exact ⟨xs,e,z,r.fresh hc⟩
 | dict ds=>obtain ⟨ep,xs,e,z,r⟩:=h;exact ⟨ep,xs,e,z,r.fresh hc⟩
 | _=>exact absurd h id
end
open PySem
def Gx (K:Fg) (tl:TE):TI:=fun σ H R=>tZ K tl σ H R\/B1 K tl σ H R
inductive Sl where | un | dat (d:PyData) | own (d:PyData) | ino (d:PyData) | ro (d:PyData)
abbrev En:=List Sl
inductive RV where | dat (d:PyData) | bor (i:Nat) | frs (d:PyData)
inductive PR where | dat (d:PyData) | frs (d:PyData)
inductive AV where | dat (d:PyData) | bor (i:Nat)
inductive PM where | dat | bor | ino
noncomputable def PR.rv:PR->RV | .dat d=>.dat d | .frs d=>.frs d
noncomputable def RV.av:RV->AV | .dat d=>.dat d | .frs d=>.dat d | .bor i=>.bor i
structure Fn where
 ms:List PM
 F:List PyData->Option (PR×List PyData)
noncomputable def cont (env:En) (i:Nat):Option PyData:=match env[i]? with | some (.own d)=>some d | some (.ino d)=>some d | some (.ro d)=>some d | _=>none
noncomputable def aC (env:En) (i:Nat):Option PyData:=match env[i]? with | some (.own d)=>some d | some (.ino d)=>some d | _=>none
noncomputable def fA (env:En) (i:Nat) (d:PyData):En:=match env[i]? with | some (.own _)=>env.set i (.own d) | some (.ino _)=>env.set i (.ino d) | _=>env
noncomputable def AV.view (env:En):AV->Option PyData | .dat d=>some d | .bor i=>cont env i
noncomputable def RV.view (env:En) (r:RV):Option PyData:=r.av.view env
def mu (env:En) (i:Nat):Prop:=∃ d,env[i]?=some (.own d)\/env[i]?=some (.ino d)
def IA (env:En) (σ:St) (b:Addr):Prop:=∃ i,mu env i/\σ[i]?=some (some (.ref b))
def FF (F0:Addr->Prop) (env:En) (σ:St) (b:Addr):Prop:=F0 b\/∃ (i:Nat) (d:PyData),env[i]?=some (.own d)/\σ[i]?=some (some (.ref b))
def eH (K:Fg) (F I:Addr->Prop) (H:Hp):PyData->Addr->Prop
 | .list ds,a=>∃ xs,LsF K I H a xs/\xs.length<=sizeLine/\DmL K F H ds xs
 | .dict kvs,a=>∃ ep xs,¬I a/\H a=some (.dD ep xs)/\xs.length<=sizeLine/\DmP K F H kvs xs
 | _,_=>False
structure Rel (K:Fg) (F0:Addr->Prop) (H₀:Hp) (I:Addr->Prop) (env:En) (σ:St) (H:Hp):Prop where
 len:env.length=σ.length
 dat:∀ (i:Nat) (d:PyData),env[i]?=some (.dat d)->∃ v,σ[i]?=some (some v)/\Dm K (FF F0 env σ) H d v
 own:∀ (i:Nat) (d:PyData),env[i]?=some (.own d)->∃ a,σ[i]?=some (some (.ref a))/\¬F0 a/\(H₀ a=none\/I a)/\Top K (FF F0 env σ) H d a
 ino:∀ (i:Nat) (d:PyData),env[i]?=some (.ino d)->∃ a,σ[i]?=some (some (.ref a))/\F0 a/\I a/\Top K (FF F0 env σ) H d a
 ro:∀ (i:Nat) (d:PyData),env[i]?=some (.ro d)->∃ a,σ[i]?=some (some (.ref a))/\eH K (FF F0 env σ) (IA env σ) H d a
 sep:∀ i j a,mu env i->mu env j->σ[i]?=some (some (.ref a))->σ[j]?=some (some (.ref a))->i=j
 dom:∀ b,F0 b->H b≠none
 cj:∀ b o,H₀ b=some o->¬I b->H b=some o
section
variable {K:Fg} {F F' I I' F0:Addr->Prop} {H H' H₀:Hp} {env env':En} {σ σ':St}
theorem eH.r {d:PyData} {a:Addr} (h:eH K F I H d a):rm K F H d a:=by
 cases d with
 | list ds =>
  obtain ⟨xs,l,z,r⟩:=h;exact ⟨xs,l.elim (fun q=>.inl q.2) .inr,z,r⟩
 | dict ds=>obtain ⟨ep,xs,n,l,z,r⟩:=h;exact ⟨ep,xs,l,z,r⟩
 | _=>exact absurd h id
theorem eH.pr {d:PyData} {a:Addr} (h:eH K F I H d a) (p:Pr F H H') (hf:∀ b,F' b->F b) (hi:∀ b,I' b->I b) (k:∀ b o,H b=some o->¬I b->H' b=some o):eH K F' I' H' d a:=by
 cases d with
 | list ds =>
  obtain ⟨xs,l,z,r⟩:=h;refine ⟨xs,?_,z,r.pr p hf⟩;rcases l with ⟨n,l | ⟨o,l⟩⟩ | l
  ·exact .inl ⟨fun q=>n (hi _ q),.inl (k _ _ l n)⟩
  ·exact .inl ⟨fun q=>n (hi _ q),.inr ⟨o,k _ _ l n⟩⟩
  ·exact .inr l
 | dict ds=>obtain ⟨ep,xs,n,l,z,r⟩:=h;exact ⟨ep,xs,fun q=>n (hi _ q),k _ _ l n,z,r.pr p hf⟩
 | _=>exact absurd h id
theorem eH.fresh {d:PyData} {a c:Addr} (hc:H c=none) (h:eH K F I H d a):eH K (fun b=>F b\/b=c) I H d a:=by
 cases d with
 | list ds=>obtain ⟨xs,e,z,r⟩:=h;exact ⟨xs,e,z,r.fresh hc⟩
 | dict ds=>obtain ⟨ep,xs,n,e,z,r⟩:=h;exact ⟨ep,xs,n,e,z,r.fresh hc⟩
 | _=>exact absurd h id
theorem Dm.ro {d:PyData} {v:V} (h:Dm K F H d v) (hi:∀ b,I b->F b) (l:(∃ ds,d=.list ds)\/∃ ds,d=.dict ds):∃ a,v=.ref a/\eH K F I H d a:=by
 rcases l with ⟨ds,rfl⟩ | ⟨ds,rfl⟩
 ·obtain ⟨a,xs,e,l,z,r⟩:=h;exact ⟨a,e,xs,l.elim (fun q=>.inl ⟨fun z=>q.1 (hi _ z),q.2⟩) .inr,z,r⟩
 ·obtain ⟨a,ep,xs,e,n,l,z,r⟩:=h;exact ⟨a,e,ep,xs,fun q=>n (hi _ q),l,z,r⟩
theorem Top.ro {d:PyData} {a:Addr} (h:Top K F H d a) (n:¬I a):eH K F I H d a:=by
 cases d with
 | list ds=>obtain ⟨xs,e,z,r⟩:=h;exact ⟨xs,.inl ⟨n,.inl e⟩,z,r⟩
 | dict ds=>obtain ⟨ep,xs,e,z,r⟩:=h;exact ⟨ep,xs,n,e,z,r⟩
 | _=>exact absurd h id
theorem Rel.ia (R:Rel K F0 H₀ I env σ H) {b:Addr} (h:IA env σ b):FF F0 env σ b:=by
 obtain ⟨i,⟨d,e | e⟩,s⟩:=h
 ·exact .inr ⟨i,d,e,s⟩
 ·obtain ⟨a,s',f,_⟩:=R.ino i d e;rw [s] at s';cases s';exact .inl f
theorem Rel.iaT (R:Rel K F0 H₀ I env σ H) {b:Addr} (h:IA env σ b):∃ o,H b=some o/\Wr o=true:=by
 obtain ⟨i,⟨d,e | e⟩,s⟩:=h
 ·obtain ⟨a,s',_,_,t⟩:=R.own i d e;rw [s] at s';cases s';exact t.wr
 ·obtain ⟨a,s',_,_,t⟩:=R.ino i d e;rw [s] at s';cases s';exact t.wr
theorem Rel.iaI (R:Rel K F0 H₀ I env σ H) {b:Addr} (h:IA env σ b):H₀ b=none\/I b:=by
 obtain ⟨i,⟨d,e | e⟩,s⟩:=h
 ·obtain ⟨a,s',_,q,t⟩:=R.own i d e;rw [s] at s';cases s';exact q
 ·obtain ⟨a,s',_,q,t⟩:=R.ino i d e;rw [s] at s';cases s';exact .inr q
theorem Rel.dh (R:Rel K F0 H₀ I env σ H) {b:Addr} (h:FF F0 env σ b):H b≠none:=by
 rcases h with h | ⟨i,d,e,s⟩
 ·exact R.dom b h
 ·obtain ⟨o,q,_⟩:=R.iaT ⟨i,⟨d,.inl e⟩,s⟩;rw [q];exact nofun
theorem Rel.m4 (R:Rel K F0 H₀ I env σ H) (k:∀ b o,H b=some o->¬IA env σ b->H' b=some o):Pr (FF F0 env σ) H H':=fun b o h n=>k b o h fun q=>by
 rcases n with n | n
 ·exact n (R.ia q)
 ·obtain ⟨o',h',w⟩:=R.iaT q;rw [h] at h';cases h';rw [n] at w;cases w
theorem Rel.rebase (R:Rel K F0 H₀ I env σ H):Rel K F0 H (IA env σ) env σ H :=
 ⟨R.len,R.dat,fun i d e=>let ⟨a,s,n,_,t⟩:=R.own i d e;⟨a,s,n,.inr ⟨i,⟨d,.inl e⟩,s⟩,t⟩,fun i d e=>let ⟨a,s,n,_,t⟩:=R.ino i d e;⟨a,s,n,⟨i,⟨d,.inr e⟩,s⟩,t⟩,R.ro,R.sep,R.dom,fun _ _ h _=>h⟩
theorem Rel.oi (R:Rel K F0 H₀ I env σ H) {a:Addr} (h:H a=none\/IA env σ a):H₀ a=none\/I a:=by
 rcases h with h | h
 ·cases e:H₀ a with
  | none=>exact .inl rfl
  | some o =>
   by_cases z:I a
   ·exact .inr z
   ·have:=R.cj a o e z;rw [h] at this;cases this
 ·exact R.iaI h
theorem Rel.aP (R:Rel K F0 H₀ I env σ H) (S:Rel K F0 H (IA env σ) env' σ' H'):Rel K F0 H₀ I env' σ' H':=by
 refine ⟨S.len,S.dat,fun i d e=>?_,fun i d e=>?_,S.ro,S.sep,S.dom,fun b o h n=>?_⟩
 ·obtain ⟨a,s,n,q,t⟩:=S.own i d e;exact ⟨a,s,n,R.oi q,t⟩
 ·obtain ⟨a,s,n,q,t⟩:=S.ino i d e;refine ⟨a,s,n,?_,t⟩;obtain ⟨j,⟨d',e' | e'⟩,s'⟩:=q
  ·obtain ⟨a',s2,n',_⟩:=R.own j d' e';rw [s'] at s2;cases s2;exact absurd n n'
  ·obtain ⟨a',s2,_,n',_⟩:=R.ino j d' e';rw [s'] at s2;cases s2;exact n'
 ·refine S.cj b o (R.cj b o h n) fun q=>?_;rcases R.iaI q with z | z
  ·rw [h] at z;cases z
  ·exact n z
def Evo:Sl->Sl->Prop
 | .un,s=>s=.un
 | .dat d,s=>s=.dat d
 | .own _,s=>(∃ d,s=.own d)\/(∃ d,s=.dat d)\/s=.un
 | .ino _,s=>∃ d,s=.ino d
 | .ro d,s=>s=.ro d
def KpE (env env':En):Prop:=env'.length=env.length/\∀ (i:Nat) (s:Sl),env[i]?=some s->∃ s',env'[i]?=some s'/\Evo s s'
theorem Evo.refl:∀ s,Evo s s
 | .un=>rfl
 | .dat _=>rfl
 | .own d=>.inl ⟨d,rfl⟩
 | .ino d=>⟨d,rfl⟩
 | .ro _=>rfl
theorem Evo.trans:∀ {a b c:Sl},Evo a b->Evo b c->Evo a c
 | .un,b,c,h,q=>by rw [show b=.un from h] at q;exact q
 | .dat d,b,c,h,q=>by rw [show b=.dat d from h] at q;exact q
 | .own d,b,c,h,q=>by
  rcases h with ⟨d,rfl⟩ | ⟨d,rfl⟩ | rfl
  ·exact q
  ·exact .inr (.inl ⟨d,q⟩)
  ·exact .inr (.inr q)
 | .ino d,b,c,h,q=>by obtain ⟨d,rfl⟩:=h;exact q
 | .ro d,b,c,h,q=>by rw [show b=.ro d from h] at q;exact q
theorem KpE.refl (env:En):KpE env env:=⟨rfl,fun i s e=>⟨s,e,.refl s⟩⟩
theorem KpE.trans {e1 e2 e3:En} (a:KpE e1 e2) (b:KpE e2 e3):KpE e1 e3:=⟨b.1.trans a.1,fun i s e=>by
 obtain ⟨s1,h1,v1⟩:=a.2 i s e;obtain ⟨s2,h2,v2⟩:=b.2 i s1 h1
 exact ⟨s2,h2,v1.trans v2⟩⟩
theorem KpE.back (k:KpE env env') {i:Nat} {s':Sl} (e:env'[i]?=some s'):∃ s,env[i]?=some s/\Evo s s':=by
 have hi:i < env'.length:=(Hd.mp e).1;have:env[i]?=some (env[i]'(by rw [<- k.1];exact hi)):=Hc _;obtain ⟨s2,h2,v⟩:=k.2 i _ this;rw [e] at h2;cases h2;exact ⟨_,this,v⟩
theorem KpE.own (k:KpE env env') {i:Nat} {d:PyData} (e:env'[i]?=some (.own d)):∃ d',env[i]?=some (.own d'):=by
 obtain ⟨s,h,v⟩:=k.back e;cases s with
 | un=>cases v
 | dat _=>cases v
 | own d'=>exact ⟨d',h⟩
 | ino _=>obtain ⟨_,v⟩:=v;cases v
 | ro _=>cases v
theorem KpE.ff (k:KpE env env') {b:Addr} (h:FF F0 env' σ b):FF F0 env σ b:=by
 rcases h with h | ⟨i,d,e,s⟩
 ·exact .inl h
 ·obtain ⟨d',e'⟩:=k.own e;exact .inr ⟨i,d',e',s⟩
theorem KpE.mu (k:KpE env env') {i:Nat} (h:mu env' i):mu env i:=by
 obtain ⟨d,h | h⟩:=h
 ·obtain ⟨d',e⟩:=k.own h;exact ⟨d',.inl e⟩
 ·obtain ⟨s,h,v⟩:=k.back h;cases s with
  | un=>cases v
  | dat _=>cases v
  | own d'=>rcases v with ⟨_,v⟩ | ⟨_,v⟩ | v <;> cases v
  | ino d'=>exact ⟨d',.inr h⟩
  | ro _=>cases v
theorem KpE.ia (k:KpE env env') {b:Addr} (h:IA env' σ b):IA env σ b:=let ⟨i,m,s⟩:=h;⟨i,k.mu m,s⟩
theorem Rel.nV (R:Rel K F0 H₀ I env σ H) (S:Rel K F0 H (IA env σ) env' σ H') (k:KpE env env') {d:PyData} {v:V} (h:Dm K (FF F0 env σ) H d v):Dm K (FF F0 env' σ) H' d v :=
 h.pr (R.m4 fun b o e n=>S.cj b o e n) fun _ z=>k.ff z
theorem Rel.same (R:Rel K F0 H₀ I env σ H) (s:ax H H'):Rel K F0 H₀ I env σ H':=by
 have p:Pr (FF F0 env σ) H H':=Pr.of_same s;refine ⟨R.len,fun i d e=>?_,fun i d e=>?_,fun i d e=>?_,fun i d e=>?_,R.sep,fun b h=>?_,fun b o h n=>s _ _ (R.cj b o h n)⟩
 ·obtain ⟨v,q,r⟩:=R.dat i d e;exact ⟨v,q,r.pr p fun _ z=>z⟩
 ·obtain ⟨a,q,n,w,t⟩:=R.own i d e;exact ⟨a,q,n,w,t.pr p (fun _ z=>z) (fun o z=>s _ _ z)⟩
 ·obtain ⟨a,q,n,w,t⟩:=R.ino i d e;exact ⟨a,q,n,w,t.pr p (fun _ z=>z) (fun o z=>s _ _ z)⟩
 ·obtain ⟨a,q,t⟩:=R.ro i d e;exact ⟨a,q,t.pr p (fun _ z=>z) (fun _ z=>z) (fun b o z _=>s _ _ z)⟩
 ·cases e:H b with
  | none=>exact absurd e (R.dom b h)
  | some o=>rw [s _ _ e];exact nofun
theorem et {c:Addr}:FF (fun b=>F0 b\/b=c) env σ=fun b=>FF F0 env σ b\/b=c:=by
 funext b;apply propext;constructor
 ·rintro ((h | h) | h)
  ·exact .inl (.inl h)
  ·exact .inr h
  ·exact .inl (.inr h)
 ·rintro ((h | h) | h)
  ·exact .inl (.inl h)
  ·exact .inr h
  ·exact .inl (.inr h)
theorem Rel.fresh (R:Rel K F0 H₀ I env σ H) {c:Addr} (hc:H c=none) {H':Hp} (s:ax H H') (hc':H' c≠none):Rel K (fun b=>F0 b\/b=c) H₀ I env σ H':=by
 have p:Pr (fun b=>FF F0 env σ b\/b=c) H H':=Pr.of_same s;have na:∀ i a,mu env i->σ[i]?=some (some (.ref a))->a≠c:=fun i a m q z=>by
  obtain ⟨o,h,_⟩:=R.iaT ⟨i,m,q⟩;rw [z,hc] at h;cases h
 refine ⟨R.len,fun i d e=>?_,fun i d e=>?_,fun i d e=>?_,fun i d e=>?_,R.sep,fun b h=>?_,fun b o h n=>s _ _ (R.cj b o h n)⟩
 ·obtain ⟨v,q,r⟩:=R.dat i d e;rw [et];exact ⟨v,q,(r.fresh hc).pr p fun _ z=>z⟩
 ·obtain ⟨a,q,n,w,t⟩:=R.own i d e;rw [et];exact ⟨a,q,fun z=>z.elim n (na i a ⟨d,.inl e⟩ q),w,(t.fresh hc).pr p (fun _ z=>z) (fun o z=>s _ _ z)⟩
 ·obtain ⟨a,q,n,w,t⟩:=R.ino i d e;rw [et];exact ⟨a,q,.inl n,w,(t.fresh hc).pr p (fun _ z=>z) (fun o z=>s _ _ z)⟩
 ·obtain ⟨a,q,t⟩:=R.ro i d e;rw [et];exact ⟨a,q,(t.fresh hc).pr p (fun _ z=>z) (fun _ z=>z) (fun b o z _=>s _ _ z)⟩
 ·rcases h with h | h
  ·cases e:H b with
   | none=>exact absurd e (R.dom b h)
   | some o=>rw [s _ _ e];exact nofun
  ·rw [h];exact hc'
theorem Rel.less {c:Addr} (R:Rel K (fun b=>F0 b\/b=c) H₀ I env σ H) (hi:∀ (i:Nat) (d:PyData),env[i]?=some (.ino d)->σ[i]?≠some (some (.ref c))):Rel K F0 H₀ I env σ H:=by
 have hf:∀ b,FF F0 env σ b->FF (fun b=>F0 b\/b=c) env σ b:=fun b z=>by rw [et];exact .inl z
 refine ⟨R.len,fun i d e=>?_,fun i d e=>?_,fun i d e=>?_,fun i d e=>?_,R.sep,fun b h=>R.dom b (.inl h),R.cj⟩
 ·obtain ⟨v,q,r⟩:=R.dat i d e;exact ⟨v,q,r.mono hf⟩
 ·obtain ⟨a,q,n,w,t⟩:=R.own i d e;exact ⟨a,q,fun z=>n (.inl z),w,t.pr Pr.refl hf fun _ z=>z⟩
 ·obtain ⟨a,q,n,w,t⟩:=R.ino i d e;refine ⟨a,q,?_,w,t.pr Pr.refl hf fun _ z=>z⟩;rcases n with n | n
  ·exact n
  ·exact absurd (n▸q) (hi i d e)
 ·obtain ⟨a,q,t⟩:=R.ro i d e;exact ⟨a,q,t.pr Pr.refl hf (fun _ z=>z) fun _ _ z _=>z⟩
end
open PySem
def vQ (K:Fg) (F:Addr->Prop) (H H':Hp):PR->V->Prop
 | .dat d,v=>Dm K F H' d v
 | .frs d,v=>∃ a,v=.ref a/\H a=none/\Top K (fun b=>F b\/b=a) H' d a
def VwL (K:Fg) (F:Addr->Prop) (H:Hp):List PyData->List V->Prop
 | [],vs=>vs=[]
 | d :: ds,vs=>∃ v r,vs=v :: r/\Vw K F H d v/\VwL K F H ds r
structure Cst where
 d:PyData
 v:V
 ok:∀ (K:Fg) (F:Addr->Prop) (H:Hp),Dm K F H d v
def Cst.i (i:Int):Cst:=⟨.int i,.int i,fun _ _ _=>rfl⟩
def Cst.s (x:Str) (h:x.length<=sizeLine) (h2:PyData.strOk x=true):Cst:=⟨.str x,.str x,fun _ _ _=>⟨rfl,h,h2⟩⟩
def Cst.b (b:Bool):Cst:=⟨.bool b,.bl b,fun _ _ _=>rfl⟩
def Cst.n:Cst:=⟨.none,.non,fun _ _ _=>rfl⟩
structure Prm where
 r:Fg->List V->Hp->VK->Prop
 f:List PyData->Option PR
 ok:∀ (K:Fg) (F:Addr->Prop) (H:Hp) (ds:List PyData) (vs:List V) (pr:PR) (Q:VK),f ds=some pr->VwL K F H ds vs->(∀ b,F b->H b≠none)->(∀ v H',ax H H'->vQ K F H H' pr v->Q v H')->r K vs H Q
structure Mtd where
 T:String
 r:Fg->V->List V->Hp->VK->Prop
 ty:PyData->Bool
 f:PyData->List PyData->Option PR
 zm:∀ (K:Fg) (F:Addr->Prop) (H:Hp) (d:PyData) (v:V),ty d=true->Vw K F H d v->tyV K T v H
 ok:∀ (K:Fg) (F:Addr->Prop) (H:Hp) (d:PyData) (v:V) (ds:List PyData) (vs:List V) (pr:PR) (Q:VK),f d ds=some pr->Vw K F H d v->VwL K F H ds vs->(∀ b,F b->H b≠none)->(∀ v H',ax H H'->vQ K F H H' pr v->Q v H')->r K v vs H Q
def MvL (K:Fg) (F:Addr->Prop) (H:Hp):List (Bool×PyData)->List V->Prop
 | [],vs=>vs=[]
 | (true,d) :: ds,vs=>∃ v r,vs=v :: r/\Dm K F H d v/\MvL K F H ds r
 | (false,d) :: ds,vs=>∃ v r,vs=v :: r/\Vw K F H d v/\MvL K F H ds r
structure Mtr where
 T:String
 r:Fg->V->List V->Hp->VK->Prop
 ty:PyData->Bool
 f:PyData->List (Bool×PyData)->Option (PyData×PyData)
 zm:∀ (K:Fg) (F:Addr->Prop) (H:Hp) (d:PyData) (a:Addr),ty d=true->Top K F H d a->tyV K T (.ref a) H
 ok:∀ (K:Fg) (F:Addr->Prop) (H:Hp) (d:PyData) (a:Addr) (as:List (Bool×PyData)) (vs:List V) (d' x:PyData) (Q:VK),f d as=some (d',x)->F a->Top K F H d a->MvL K F H as vs ->
  (∀ v H',(∀ b o,b≠a->H b=some o->H' b=some o)->Top K F H' d' a->Dm K F H' x v->Q v H')->r K (.ref a) vs H Q
structure um where
 r:Fg->V->V->V->Hp->(Hp->Prop)->Prop
 f:PyData->PyData->PyData->Option PyData
 ok:∀ (K:Fg) (F:Addr->Prop) (H:Hp) (d:PyData) (a:Addr) (k x:PyData) (vk vx:V) (d':PyData) (Q:Hp->Prop),f d k x=some d'->F a->Top K F H d a->Vw K F H k vk->Dm K F H x vx ->
  (∀ H',(∀ b o,b≠a->H b=some o->H' b=some o)->Top K F H' d' a->Q H')->r K (.ref a) vk vx H Q
mutual
inductive XE where
 | var (i:Nat) | mov (i:Nat) | tke (i:Nat) | cst (c:Cst) | glb (g:Nat)
 | prm (p:Prm) (as:XA) | met (m:Mtd) (o:XE) (as:XA) | mtr (m:Mtr) (i:Nat) (as:XA) | call (f:Fn) (as:XA)
 | tup (as:XA) | lst (as:XA) | dsp (as:XP) | fst (as:XA)
 | ifx (c:XT) (a b:XE) | q0 (a b:XE) | orv (a b:XE) | yq (a:XE) | chn (p q:Prm) (a b c:XE) | sl2 (p:Int->Int->Prm) (a b c:XE)
 | cmp (js:List Nat) (it:XI) (c:XT) (e:XE) | sH (n:List Str) (js:List Nat) (it:XI) (e:XE)
inductive XA where | nil | cons (e:XE) (r:XA)
inductive XP where | nil | cons (k e:XE) (r:XP)
inductive XT where | tst (e:XE) | tru (e:XE) | and (a b:XT) | or (a b:XT) | not (a:XT) | yes
inductive XI where | lst (e:XE) | tup (e:XE) | str (e:XE) | rng1 (as:XA) | rng2 (as:XA) | dct (e:XE) | zip (as:XA) | sq (e:XE) | itm (e:XE)
end
inductive XS where
 | skip | seq (a b:XS) | cM (i:Nat) (e:XE) | oM (i:Nat) (e:XE) | ym (is:List Nat) (e:XE) | drop (e:XE) | ret (e:XE) | BR
 | ifs (c:XT) (a b:XS) | fr (i:Nat) (it:XI) (b:XS) | frT (is:List Nat) (it:XI) (b:XS) | wh (n:Nat) (c:XT) (b:XS) | brk | cnt | nev | sto (m:um) (i:Nat) (k e:XE)
def gNs:List Nat->TGs
 | []=>DB
 | i :: r=>wz (cX i) (gNs r)
def gTp (K:PySem.W.Frag) (is:List Nat):TG:=DW K is.length (gNs is)
def Gy:List TE->TE:=fun ts=>tFs ts Str.empty
def NoE:XK:=fun _ _ _=>False
def x6 (K:PySem.W.Frag) (G I:Addr->Prop) (H:Hp) (d:PyData) (v:V):Prop:=match d with
 | .tuple ds=>Dm K G H (.tuple ds) v
 | d=>∃ a,v=.ref a/\eH K G I H d a
def bh (K:PySem.W.Frag) (G I:Addr->Prop) (H:Hp):List PM->List PyData->List V->List Addr->Prop
 | [],[],[],is=>is=[]
 | .dat :: ms,d :: ds,v :: vs,is=>Dm K G H d v/\bh K G I H ms ds vs is
 | .bor :: ms,d :: ds,v :: vs,is=>x6 K G I H d v/\bh K G I H ms ds vs is
 | .ino :: ms,d :: ds,v :: vs,is=>∃ a r,v=.ref a/\is=a :: r/\G a/\Top K G H d a/\a ∉ r/\bh K G I H ms ds vs r
 | _,_,_,_=>False
def gI (K:PySem.W.Frag) (G:Addr->Prop) (H:Hp):List PyData->List Addr->Prop
 | [],[]=>True
 | d :: ds,a :: r=>Top K G H d a/\gI K G H ds r
 | _,_=>False
def CB (K:PySem.W.Frag) (G:Addr->Prop) (H H':Hp) (outs:List PyData) (is:List Addr):PR->V->Prop
 | .dat d,v=>Dm K G H' d v/\gI K G H' outs is
 | .frs d,v=>∃ a,v=.ref a/\H a=none/\Top K (fun b=>G b\/b=a) H' d a/\gI K (fun b=>G b\/b=a) H' outs is
def bz (f:Fn) (K:PySem.W.Frag):Sp:=fun vs H Q _=>∃ (G:Addr->Prop) (ds:List PyData) (is:List Addr) (pr:PR) (outs:List PyData),f.F ds=some (pr,outs)/\bh K G (·∈is) H f.ms ds vs is/\(∀ b,G b->H b≠none) /\
 ∀ v' H',(∀ b o,H b=some o->b ∉ is->H' b=some o)->CB K G H H' outs is pr v'->Q v' H'
section
variable (K:PySem.W.Frag) (ga:Nat->V)
mutual
noncomputable def rE:XE->TE
 | .var i=>ug i | .mov i=>ug i | .tke i=>ug i | .cst c=>tC c.v | .glb g=>tC (ga g)
 | .prm p as=>tCB (p.r K) (rA as) | .met m o as=>tBM K m.T (m.r K) (rE o) (rA as) | .mtr m i as=>tBM K m.T (m.r K) (ug i) (rA as) | .call f as=>qp (bz f K) [] NoE (rA as)
 | .tup as=>BU (rA as) | .lst as=>E3 (rA as) | .dsp as=>rX (rP as) | .fst as=>Gy (rF as)
 | .ifx c a b=>tIf (rT c) (rE a) (rE b) | .q0 a b=>wZ (rE a) (rE b) | .orv a b=>ES (rE a) (rE b) | .yq a=>vU (rE a)
 | .chn p q a b c=>kg (fun x y=>p.r K [x,y]) (fun x y=>q.r K [x,y]) (rE a) (rE b) (rE c)
 | .sl2 p a b c=>fun σ H Q=>rE a σ H fun x H1=>rE b σ H1 fun y H2=>∃ i,y=.int i/\rE c σ H2 fun z H3=>∃ j,z=.int j/\(p i j).r K [x] H3 Q
 | .cmp js it c e=>oN js (rI_ it) (rT c) (rE e) | .sH n js it e=>AY n js (rI_ it) (gTp K (List.range n.length)) (rE e)
noncomputable def rA:XA->TA
 | .nil=>ml | .cons e r=>cT (rE e) (rA r)
noncomputable def rF:XA->List TE
 | .nil=>[] | .cons e r=>rE e :: rF r
noncomputable def rP:XP->List (TE×TE)
 | .nil=>[] | .cons k e r=>(rE k,rE e) :: rP r
noncomputable def rT:XT->TT
 | .tst e=>tB (rE e) | .tru e=>F8 K (rE e) | .and a b=>EC (rT a) (rT b) | .or a b=>tOr (rT a) (rT b) | .not a=>DK (rT a) | .yes=>Cu
noncomputable def rI_:XI->TI
 | .lst e=>tZ K (rE e) | .tup e=>B1 K (rE e) | .str e=>D4 (rE e) | .rng1 as=>wK (rA as) | .rng2 as=>C0 (rA as) | .dct e=>GR (rE e) | .zip as=>F7 K (rA as) | .sq e=>Gx K (rE e) | .itm e=>Cj (rE e)
end
def rS:XS->TS
 | .skip=>xx | .seq a b=>Eb (rS a) (rS b) | .cM i e=>rK (rE K ga e) (cX i) | .oM i e=>rK (rE K ga e) (cX i) | .ym is e=>rK (rE K ga e) (gTp K is) | .drop e=>xf (rE K ga e) | .ret e=>CW (rE K ga e) | .BR=>DR
 | .ifs c a b=>DT (rT K ga c) (rS a) (rS b) | .fr i it b=>Bm (rI_ K ga it) (cX i) (rS b) | .frT is it b=>Bm (rI_ K ga it) (gTp K is) (rS b) | .wh n c b=>qc (rT K ga c) (rS b) | .brk=>BH | .cnt=>EI | .nev=>vp
 | .sto m i k e=>fun D σ H=>rE K ga e σ H fun x H1=>ug i σ H1 fun o H2=>rE K ga k σ H2 fun y H3=>m.r K o y x H3 (D.nx σ)
end
noncomputable def CV:PyData->Bool
 | .none=>false | .bool b=>b | .int i=>i != 0 | .str x=>(x.length:Int) != 0 | .list ds=>!ds.isEmpty | .tuple ds=>!ds.isEmpty | .dict ds=>!ds.isEmpty
noncomputable def k7:PyData->Bool | .str _=>true | _=>false
noncomputable def Di:PyData->Bool | .dict _=>true | _=>false
noncomputable def lS (lk:Bool):Sl->Sl
 | .own d=>if lk then .ro d else .ino d
 | .ino d=>if lk then .ro d else .ino d
 | s=>s
noncomputable def cq (env:En) (lock:Option Nat) (js:List Nat):En:=js.map fun j=>lS (decide (lock=some j)) (env[j]?.getD .un)
noncomputable def ay:En->List Nat->En->En
 | env,j :: js,.ino d :: es=>ay (fA env j d) js es
 | env,_ :: js,_ :: es=>ay env js es
 | env,_,_=>env
noncomputable def sR (step:PyData->En->Option (Option PyData×En)):List PyData->En->Option (List PyData×En)
 | [],env=>some ([],env)
 | d :: ds,env=>match step d env with
  | some (y,e1)=>match sR step ds e1 with
   | some (ys,e2)=>some (y.toList++ys,e2)
   | none=>none
  | none=>none
noncomputable def EK (env:En):PM->AV->Option PyData
 | .dat,.dat d=>some d
 | .bor,.dat (.list d)=>some (.list d)
 | .bor,.dat (.dict d)=>some (.dict d)
 | .bor,.dat (.tuple d)=>some (.tuple d)
 | .bor,.bor i=>cont env i
 | .ino,.bor i=>aC env i
 | _,_=>none
noncomputable def iH (env:En):List PM->List AV->Option (List PyData)
 | [],[]=>some []
 | m :: ms,a :: as=>match EK env m a,iH env ms as with
  | some d,some ds=>some (d :: ds)
  | _,_=>none
 | _,_=>none
noncomputable def bT:List PM->List AV->List Nat
 | .ino :: ms,.bor i :: as=>i :: bT ms as
 | _ :: ms,_ :: as=>bT ms as
 | _,_=>[]
noncomputable def sL:List PM->List AV->List Nat
 | .bor :: ms,.bor i :: as=>i :: sL ms as
 | _ :: ms,_ :: as=>sL ms as
 | _,_=>[]
noncomputable def cf:En->List Nat->List PyData->En
 | env,i :: is,d :: ds=>cf (fA env i d) is ds
 | env,_,_=>env
noncomputable def xW:List Nat->Bool
 | []=>true
 | x :: xs=>!xs.contains x&&xW xs
noncomputable def ckA (is bs:List Nat) (n:Nat):Bool:=xW is&&(bs.all (fun i=>!is.contains i)&&n==is.length)
noncomputable def t8 (f:Fn) (avs:List AV) (env:En):Option (RV×En) :=
 match iH env f.ms avs with
 | none=>none
 | some ds=>match f.F ds with
  | none=>none
  | some (pr,outs)=>if ckA (bT f.ms avs) (sL f.ms avs) outs.length=true then some (pr.rv,cf env (bT f.ms avs) outs) else none
noncomputable def aD (env:En):List AV->Option (List PyData)
 | []=>some []
 | a :: as=>match a.view env,aD env as with
  | some d,some ds=>some (d :: ds)
  | _,_=>none
noncomputable def AV.Dc:AV->Bool | .dat _=>true | .bor _=>false
noncomputable def du (env:En):List AV->Option (List (Bool×PyData))
 | []=>some []
 | a :: as=>match a.view env,du env as with
  | some d,some ds=>some ((a.Dc,d) :: ds)
  | _,_=>none
noncomputable def kA:List AV->Option (List PyData)
 | []=>some []
 | .dat d :: as=>match kA as with | some ds=>some (d :: ds) | none=>none
 | .bor _ :: _=>none
noncomputable def keyOf:PyData->Option Key | .int i=>some (.inl i) | .str x=>some (.inr x) | _=>none
noncomputable def putD (kvs:List (PyData×PyData)) (k d:PyData):List (PyData×PyData) :=
 if (kvs.any fun kv=>PyData.eqv kv.1 k)=true then kvs.map (fun kv=>if PyData.eqv kv.1 k=true then (kv.1,d) else kv) else kvs++[(k,d)]
noncomputable def getD (kvs:List (PyData×PyData)) (k:PyData):Option PyData:=(kvs.find? fun kv=>PyData.eqv kv.1 k).map (·.2)
noncomputable def a6 (env:En):Option Nat->En
 | some i=>match env[i]? with | some (.own d)=>env.set i (.ro d) | some (.ino d)=>env.set i (.ro d) | _=>env
 | none=>env
noncomputable def ao (DA:En) (lock:Option Nat) (env:En):En:=match lock with
 | some i=>match DA[i]?,env[i]? with
  | some (.own _),some (.ro d)=>env.set i (.own d)
  | some (.ino _),some (.ro d)=>env.set i (.ino d)
  | _,_=>env
 | none=>env
noncomputable def cI (t:En->Option (Bool×En)) (b:En->Option (RV×En)) (d:PyData) (ec:En):Option (Option PyData×En):=match t (.dat d :: ec) with
 | some (true,e2)=>match b e2 with
  | some (rv,e3)=>match rv.av with | .dat y=>some (some y,e3.tail) | .bor _=>none
  | none=>none
 | some (false,e2)=>some (none,e2.tail)
 | none=>none
noncomputable def jv (n:Nat) (b:En->Option (RV×En)) (d:PyData) (ec:En):Option (Option PyData×En):=match d with
 | .tuple xs=>if xs.length=n then match b (xs.map .dat++ec) with
   | some (rv,e3)=>match rv.av with | .dat y=>some (some y,e3.drop n) | .bor _=>none
   | none=>none
  else none
 | _=>none
noncomputable def roL (e:En):AV->Option (List PyData)
 | .dat (.list xs)=>some xs
 | .bor i=>match e[i]? with | some (.ro (.list xs))=>some xs | _=>none
 | _=>none
mutual
noncomputable def dE (gd:List PyData):XE->En->Option (RV×En)
 | .var i,env=>match env[i]? with | some (.dat d)=>some (.dat d,env) | some (.own _)=>some (.bor i,env) | some (.ino _)=>some (.bor i,env) | some (.ro _)=>some (.bor i,env) | _=>none
 | .mov i,env=>match env[i]? with | some (.own d)=>some (.dat d,env.set i (.dat d)) | _=>none
 | .tke i,env=>match env[i]? with | some (.own d)=>some (.frs d,env.set i .un) | _=>none
 | .cst c,env=>some (.dat c.d,env)
 | .glb g,env=>match gd[g]? with | some d=>some (.dat d,env) | none=>none
 | .prm p as,env=>match dA gd as env with
  | some (avs,e1)=>match aD e1 avs with
   | some ds=>match p.f ds with | some pr=>some (pr.rv,e1) | none=>none
   | none=>none
  | none=>none
 | .met m o as,env=>match dE gd o env with
  | some (rv,e1)=>match rv.view e1 with
   | some d0=>if m.ty d0=true then match dA gd as e1 with
     | some (avs,e2)=>match rv.view e2,aD e2 avs with
      | some d,some ds=>match m.f d ds with | some pr=>some (pr.rv,e2) | none=>none
      | _,_=>none
     | none=>none
    else none
   | none=>none
  | none=>none
 | .mtr m i as,env=>match aC env i with
  | some d0=>if m.ty d0=true then match dA gd as env with
    | some (avs,e1)=>match aC e1 i,du e1 avs with
     | some d,some ds=>match m.f d ds with | some (d',x)=>some (.dat x,fA e1 i d') | none=>none
     | _,_=>none
    | none=>none
   else none
  | none=>none
 | .call f as,env=>match dA gd as env with
  | some (avs,e1)=>t8 f avs e1
  | none=>none
 | .tup as,env=>match dA gd as env with
  | some (avs,e1)=>match kA avs with | some ds=>if ds.length<=sizeLine then some (.dat (.tuple ds),e1) else none | none=>none
  | none=>none
 | .lst as,env=>match dA gd as env with
  | some (avs,e1)=>match kA avs with | some ds=>if ds.length<=sizeLine then some (.frs (.list ds),e1) else none | none=>none
  | none=>none
 | .dsp as,env=>match dP gd as env with
  | some (kvs,e1)=>if kvs.length<=15 then some (.frs (.dict (kvs.foldl (fun acc kv=>putD acc (kD kv.1) kv.2) [])),e1) else none
  | none=>none
 | .fst as,env=>match dF gd as Str.empty env with
  | some (x,e1)=>some (.dat (.str x),e1)
  | none=>none
 | .ifx c a b,env=>match dT gd c env with
  | some (true,e1)=>dE gd a e1
  | some (false,e1)=>dE gd b e1
  | none=>none
 | .q0 a b,env=>match dE gd a env with
  | some (.dat (.bool true),e1)=>dE gd b e1
  | some (.dat (.bool false),e1)=>some (.dat (.bool false),e1)
  | _=>none
 | .orv a b,env=>match dE gd a env with
  | some (.dat (.bool true),e1)=>some (.dat (.bool true),e1)
  | some (.dat (.bool false),e1)=>dE gd b e1
  | _=>none
 | .yq a,env=>match dE gd a env with
  | some (.dat (.bool x),e1)=>some (.dat (.bool (!x)),e1)
  | _=>none
 | .chn p q a b c,env=>match dE gd a env with
  | some (ra,e1)=>match dE gd b e1 with
   | some (rb,e2)=>match ra.av,rb.av with
    | .dat x,.dat y=>match p.f [x,y] with
     | some (.dat (.bool true))=>match dE gd c e2 with
      | some (rc,e3)=>match rc.av with
       | .dat z=>match q.f [y,z] with | some pr=>some (pr.rv,e3) | none=>none
       | _=>none
      | none=>none
     | some (.dat (.bool false))=>some (.dat (.bool false),e2)
     | _=>none
    | _,_=>none
   | none=>none
  | none=>none
 | .sl2 p a b c,env=>match dE gd a env with
  | some (ra,e1)=>match dE gd b e1 with
   | some (.dat (.int i),e2)=>match dE gd c e2 with
    | some (.dat (.int j),e3)=>match ra.view e3 with
     | some d=>match (p i j).f [d] with | some pr=>some (pr.rv,e3) | none=>none
     | none=>none
    | _=>none
   | _=>none
  | none=>none
 | .cmp js it c e,env=>match dI gd it env with
  | some (ds,lock,e1)=>if js.Nodup then match sR (cI (dT gd c) (dE gd e)) ds (cq e1 lock js) with
    | some (ys,ec)=>some (.frs (.list ys),ay e1 js ec)
    | none=>none
   else none
  | none=>none
 | .sH n js it e,env=>match dI gd it env with
  | some (ds,lock,e1)=>if js.Nodup then match sR (jv n.length (dE gd e)) ds (cq e1 lock js) with
    | some (ys,ec)=>some (.frs (.list ys),ay e1 js ec)
    | none=>none
   else none
  | none=>none
noncomputable def dA (gd:List PyData):XA->En->Option (List AV×En)
 | .nil,env=>some ([],env)
 | .cons e r,env=>match dE gd e env with
  | some (rv,e1)=>match dA gd r e1 with
   | some (avs,e2)=>some (rv.av :: avs,e2)
   | none=>none
  | none=>none
noncomputable def dF (gd:List PyData):XA->Str->En->Option (Str×En)
 | .nil,out,env=>if out.length<=sizeLine then some (out,env) else none
 | .cons e r,out,env=>match dE gd e env with
  | some (.dat (.str x),e1)=>if (out++x).length<=sizeLine then dF gd r (out++x) e1 else none
  | _=>none
noncomputable def dP (gd:List PyData):XP->En->Option (List (Key×PyData)×En)
 | .nil,env=>some ([],env)
 | .cons k e r,env=>match dE gd k env with
  | some (rk,e1)=>match dE gd e e1 with
   | some (rv,e2)=>match dP gd r e2 with
    | some (kvs,e3)=>match rk.av,rv.av with
     | .dat dk,.dat d=>match keyOf dk with | some k=>some ((k,d) :: kvs,e3) | none=>none
     | _,_=>none
    | none=>none
   | none=>none
  | none=>none
noncomputable def dT (gd:List PyData):XT->En->Option (Bool×En)
 | .tst e,env=>match dE gd e env with | some (.dat (.bool b),e1)=>some (b,e1) | _=>none
 | .tru e,env=>match dE gd e env with
  | some (rv,e1)=>match rv.view e1 with | some d=>if Di d=true then none else some (CV d,e1) | none=>none
  | none=>none
 | .and a b,env=>match dT gd a env with | some (true,e1)=>dT gd b e1 | some (false,e1)=>some (false,e1) | none=>none
 | .or a b,env=>match dT gd a env with | some (true,e1)=>some (true,e1) | some (false,e1)=>dT gd b e1 | none=>none
 | .not a,env=>match dT gd a env with | some (b,e1)=>some (!b,e1) | none=>none
 | .yes,env=>some (true,env)
noncomputable def dI (gd:List PyData):XI->En->Option (List PyData×Option Nat×En)
 | .lst e,env=>match dE gd e env with
  | some (rv,e1)=>match rv.av with
   | .dat (.list ds)=>some (ds,none,e1)
   | .dat _=>none
   | .bor i=>match cont e1 i with | some (.list ds)=>some (ds,some i,e1) | _=>none
  | none=>none
 | .dct e,env=>match dE gd e env with
  | some (rv,e1)=>match rv.av with
   | .dat (.dict kvs)=>some (kvs.map (·.1),none,e1)
   | .dat _=>none
   | .bor i=>match cont e1 i with | some (.dict kvs)=>some (kvs.map (·.1),some i,e1) | _=>none
  | none=>none
 | .tup e,env=>match dE gd e env with
  | some (rv,e1)=>match rv.av with | .dat (.tuple ds)=>some (ds,none,e1) | _=>none
  | none=>none
 | .itm e,env=>match dE gd e env with
  | some (rv,e1)=>match rv.av with | .dat (.dict kvs)=>if (kvs.all fun p=>k7 p.1)=true then some (kvs.map fun p=>.tuple [p.1,p.2],none,e1) else none | _=>none
  | none=>none
 | .sq e,env=>match dE gd e env with
  | some (rv,e1)=>match rv.av with
   | .dat (.list ds)=>some (ds,none,e1)
   | .dat (.tuple ds)=>some (ds,none,e1)
   | .dat _=>none
   | .bor i=>match cont e1 i with | some (.list ds)=>some (ds,some i,e1) | _=>none
  | none=>none
 | .str e,env=>match dE gd e env with
  | some (rv,e1)=>match rv.av with | .dat (.str x)=>some (x.cps.toList.map fun c=>.str ⟨#[c]⟩,none,e1) | _=>none
  | none=>none
 | .rng1 as,env=>match dA gd as env with
  | some (avs,e1)=>match avs with | [.dat (.int j)]=>if -(2 ^ 62)<=j/\j<=2 ^ 24 then some ((List.range j.toNat).map fun (k:Nat)=>.int ((0:Int)+(k:Int)),none,e1) else none | _=>none
  | none=>none
 | .zip as,env=>match dA gd as env with
  | some (avs,e1)=>match avs with
   | [x,y]=>match roL e1 x,roL e1 y with | some xs,some ys=>some ((xs.zip ys).map fun p=>.tuple [p.1,p.2],none,e1) | _,_=>none
   | _=>none
  | none=>none
 | .rng2 as,env=>match dA gd as env with
  | some (avs,e1)=>match avs with | [.dat (.int i),.dat (.int j)]=>if -(2 ^ 62)<=i/\i < 2 ^ 62/\-(2 ^ 62)<=j/\j < 2 ^ 62/\j - i<=2 ^ 24 then some ((List.range (j - i).toNat).map fun (k:Nat)=>.int (i+(k:Int)),none,e1) else none | _=>none
  | none=>none
end
noncomputable def lkd (env:En):Option Nat->Bool
 | some i=>match env[i]? with | some (.own _)=>true | some (.ino _)=>true | _=>false
 | none=>false
noncomputable def RV.soft (b:Bool):RV->RV | .frs d=>if b then .dat d else .frs d | r=>r
inductive Out where | nx (env:En) | rt (rv:RV) (env:En) | bk (env:En) | ct (env:En)
noncomputable def Out.map (b:Bool) (f:En->En):Out->Out | .nx e=>.nx (f e) | .rt r e=>.rt (r.soft b) (f e) | .bk e=>.bk (f e) | .ct e=>.ct (f e)
noncomputable def forL (b:PyData->En->Option Out):List PyData->En->Option Out
 | [],env=>some (.nx env)
 | d :: ds,env=>match b d env with
  | some (.nx e)=>forL b ds e
  | some (.ct e)=>forL b ds e
  | some (.bk e)=>some (.nx e)
  | some (.rt r e)=>some (.rt r e)
  | none=>none
noncomputable def whL (t:En->Option (Bool×En)) (b:En->Option Out):Nat->En->Option Out
 | 0,_=>none
 | n+1,env=>match t env with
  | some (true,e1)=>match b e1 with
   | some (.nx e)=>whL t b n e
   | some (.ct e)=>whL t b n e
   | some (.bk e)=>some (.nx e)
   | some (.rt r e)=>some (.rt r e)
   | none=>none
  | some (false,e1)=>some (.nx e1)
  | none=>none
noncomputable def free (env:En) (i:Nat):Bool:=match env[i]? with | some .un=>true | some (.dat _)=>true | some (.own _)=>true | _=>false
noncomputable def d7:En->List Nat->List PyData->Option En
 | env,[],[]=>some env
 | env,i :: is,d :: ds=>if free env i=true then d7 (env.set i (.dat d)) is ds else none
 | _,_,_=>none
noncomputable def iT (i:Nat) (b:En->Option Out) (d:PyData) (e:En):Option Out:=if free e i=true then b (e.set i (.dat d)) else none
noncomputable def fZ (is:List Nat) (b:En->Option Out) (d:PyData) (e:En):Option Out:=match d with
 | .tuple xs=>match d7 e is xs with | some e2=>b e2 | none=>none
 | _=>none
noncomputable def dS (gd:List PyData):XS->En->Option Out
 | .skip,env=>some (.nx env)
 | .seq a b,env=>match dS gd a env with
  | some (.nx e)=>dS gd b e
  | o=>o
 | .cM i e,env=>match dE gd e env with
  | some (rv,e1)=>match rv.av with | .dat d=>if free e1 i=true then some (.nx (e1.set i (.dat d))) else none | .bor _=>none
  | none=>none
 | .oM i e,env=>match dE gd e env with
  | some (.frs d,e1)=>if free e1 i=true then some (.nx (e1.set i (.own d))) else none
  | _=>none
 | .ym is e,env=>match dE gd e env with
  | some (rv,e1)=>match rv.av with
   | .dat (.tuple ds)=>match d7 e1 is ds with | some e2=>some (.nx e2) | none=>none
   | _=>none
  | none=>none
 | .drop e,env=>match dE gd e env with | some (_,e1)=>some (.nx e1) | none=>none
 | .ret e,env=>match dE gd e env with | some (rv,e1)=>some (.rt rv e1) | none=>none
 | .BR,env=>some (.rt (.dat .none) env)
 | .ifs c a b,env=>match dT gd c env with
  | some (true,e1)=>dS gd a e1
  | some (false,e1)=>dS gd b e1
  | none=>none
 | .fr i it b,env=>match dI gd it env with
  | some (ds,lock,e1)=>(forL (iT i (dS gd b)) ds (a6 e1 lock)).map (Out.map (lkd e1 lock) (ao e1 lock))
  | none=>none
 | .frT is it b,env=>match dI gd it env with
  | some (ds,lock,e1)=>(forL (fZ is (dS gd b)) ds (a6 e1 lock)).map (Out.map (lkd e1 lock) (ao e1 lock))
  | none=>none
 | .wh n c b,env=>whL (dT gd c) (dS gd b) n env
 | .brk,env=>some (.bk env)
 | .cnt,env=>some (.ct env)
 | .nev,_=>none
 | .sto m i k e,env=>match dE gd e env with
  | some (rv,e1)=>match rv.av with
   | .dat x=>match aC e1 i with
    | some _=>match dE gd k e1 with
     | some (rk,e2)=>match rk.view e2,aC e2 i with
      | some dk,some d=>match m.f d dk x with | some d'=>some (.nx (fA e2 i d')) | none=>none
      | _,_=>none
     | none=>none
    | none=>none
   | .bor _=>none
  | none=>none
noncomputable def xB:PyData->Sl | .tuple ds=>.dat (.tuple ds) | d=>.ro d
noncomputable def ag:List PM->List PyData->Nat->En
 | .dat :: ms,d :: ds,n=>.dat d :: ag ms ds (n - 1)
 | .bor :: ms,d :: ds,n=>xB d :: ag ms ds (n - 1)
 | .ino :: ms,d :: ds,n=>.ino d :: ag ms ds (n - 1)
 | _,_,n=>List.replicate n .un
noncomputable def gC:List PM->En->Option (List PyData)
 | .ino :: ms,.ino d :: es=>match gC ms es with | some ds=>some (d :: ds) | none=>none
 | .ino :: _,_=>none
 | _ :: ms,_ :: es=>gC ms es
 | _,_=>some []
noncomputable def RV.pr:RV->Option PR | .dat d=>some (.dat d) | .frs d=>some (.frs d) | .bor _=>none
noncomputable def bI (gd:List PyData) (ms:List PM) (n:Nat) (b:XS):Fn where
 ms:=ms
 F:=fun ds=>if ds.length=ms.length then match dS gd b (ag ms ds n) with
   | some (.rt rv env)=>match rv.pr,gC ms env with | some pr,some outs=>some (pr,outs) | _,_=>none
   | some (.nx env)=>match gC ms env with | some outs=>some (.dat .none,outs) | none=>none
   | _=>none
  else none
open PySem
theorem ax.rf (H:Hp):ax H H:=fun _ _ h=>h
theorem ax.nw {H:Hp} {a:Addr} (o:HO) (h:H a=none):ax H (upd H a o):=fun b u q=>by rw [af (az q h)];exact q
section
variable {K:Fg} {F F' I I' F0:Addr->Prop} {H H' H₀:Hp} {env env':En} {σ σ':St} {ga:Nat->V} {gd:List PyData}
def c7 (K:Fg) (F0:Addr->Prop) (H₀:Hp) (I:Addr->Prop) (env:En) (σ:St) (H:Hp):RV->V->Prop
 | .dat d,v=>Dm K (FF F0 env σ) H d v
 | .bor i,v=>σ[i]?=some (some v)
 | .frs d,v=>∃ a,v=.ref a/\Rel K (fun b=>F0 b\/b=a) H₀ I env σ H/\Top K (fun b=>FF F0 env σ b\/b=a) H d a/\(H₀ a=none\/I a)/\¬FF F0 env σ a/\(∀ (i:Nat) (d':PyData),env[i]?=some (.ino d')->σ[i]?≠some (some (.ref a))) /\
   ∀ (i:Nat) (d':PyData),env[i]?=some (.ro d')->∃ b,σ[i]?=some (some (.ref b))/\eH K (fun b=>FF F0 env σ b\/b=a) (fun b=>IA env σ b\/b=a) H d' b
def vv (K:Fg) (F0:Addr->Prop) (env:En) (σ:St) (H:Hp):AV->V->Prop
 | .dat d,v=>Dm K (FF F0 env σ) H d v
 | .bor i,v=>σ[i]?=some (some v)
def fC (K:Fg) (F0:Addr->Prop) (env:En) (σ:St) (H:Hp):List AV->List V->Prop
 | [],vs=>vs=[]
 | a :: as,vs=>∃ v r,vs=v :: r/\vv K F0 env σ H a v/\fC K F0 env σ H as r
theorem c7.av {rv:RV} {v:V} (h:c7 K F0 H₀ I env σ H rv v):vv K F0 env σ H rv.av v:=by
 cases rv with
 | dat d=>exact h
 | bor i=>exact h
 | frs d =>
  obtain ⟨a,e,R,t,_,n,_⟩:=h;subst e;exact (t.pr Pr.refl (F':=FF F0 env σ) (fun _ z=>.inl z) (fun _ z=>z)).dm n
theorem vv.keep (R:Rel K F0 H₀ I env σ H) (S:Rel K F0 H (IA env σ) env' σ H') (k:KpE env env') {a:AV} {v:V} (h:vv K F0 env σ H a v):vv K F0 env' σ H' a v:=by
 cases a with
 | dat d=>exact R.nV S k h
 | bor i=>exact h
theorem Rel.E2 (R:Rel K F0 H₀ I env σ H) {i:Nat} {d:PyData} {v:V} (h:cont env i=some d) (s:σ[i]?=some (some v)):Vw K (FF F0 env σ) H d v:=by
 unfold cont at h;cases e:env[i]? with
 | none=>rw [e] at h;cases h
 | some sl =>
  rw [e] at h;cases sl with
  | un=>cases h
  | dat _=>cases h
  | own d' =>
   cases h;obtain ⟨a,q,_,_,t⟩:=R.own i d e;rw [s] at q;cases q;exact t.r.vw
  | ino d' =>
   cases h;obtain ⟨a,q,_,_,t⟩:=R.ino i d e;rw [s] at q;cases q;exact t.r.vw
  | ro d' =>
   cases h;obtain ⟨a,q,t⟩:=R.ro i d e;rw [s] at q;cases q;exact t.r.vw
theorem Rel.cb (R:Rel K F0 H₀ I env σ H) {i:Nat} {d:PyData} (h:aC env i=some d):mu env i/\∃ a,σ[i]?=some (some (.ref a))/\FF F0 env σ a/\Top K (FF F0 env σ) H d a:=by
 unfold aC at h;cases e:env[i]? with
 | none=>rw [e] at h;cases h
 | some sl =>
  rw [e] at h;cases sl with
  | un=>cases h
  | dat _=>cases h
  | own d' =>
   cases h;obtain ⟨a,q,_,_,t⟩:=R.own i d e;exact ⟨⟨d,.inl e⟩,a,q,.inr ⟨i,d,e,q⟩,t⟩
  | ino d' =>
   cases h;obtain ⟨a,q,f,_,t⟩:=R.ino i d e;exact ⟨⟨d,.inr e⟩,a,q,.inl f,t⟩
  | ro d'=>cases h
theorem vv.vw (R:Rel K F0 H₀ I env σ H) {a:AV} {v:V} {d:PyData} (h:vv K F0 env σ H a v) (e:a.view env=some d):Vw K (FF F0 env σ) H d v:=by
 cases a with
 | dat d'=>cases e;exact Dm.vw h
 | bor i=>exact R.E2 e h
theorem fC.vw (R:Rel K F0 H₀ I env σ H):∀ {as:List AV} {vs:List V} {ds:List PyData},fC K F0 env σ H as vs->aD env as=some ds->VwL K (FF F0 env σ) H ds vs
 | [],_,ds,h,e=>by cases e;exact h
 | a :: as,_,ds,h,e=>by
  obtain ⟨v,r,rfl,h1,h2⟩:=h;unfold aD at e;cases e1:a.view env with
  | none=>rw [e1] at e;cases e
  | some d =>
   cases e2:aD env as with
   | none=>rw [e1,e2] at e;cases e
   | some ds' =>
    rw [e1,e2] at e;cases e;exact ⟨v,r,rfl,h1.vw R e1,fC.vw R h2 e2⟩
theorem fC.mv (R:Rel K F0 H₀ I env σ H):∀ {as:List AV} {vs:List V} {ds:List (Bool×PyData)},fC K F0 env σ H as vs->du env as=some ds->MvL K (FF F0 env σ) H ds vs
 | [],_,ds,h,e=>by cases e;exact h
 | a :: as,_,ds,h,e=>by
  obtain ⟨v,r,rfl,h1,h2⟩:=h;unfold du at e;cases e1:a.view env with
  | none=>rw [e1] at e;cases e
  | some d =>
   cases e2:du env as with
   | none=>rw [e1,e2] at e;cases e
   | some ds' =>
    rw [e1,e2] at e;cases e;have ih:=fC.mv R h2 e2;cases a with
    | dat d'=>cases e1;exact ⟨v,r,rfl,h1,ih⟩
    | bor i=>exact ⟨v,r,rfl,h1.vw R e1,ih⟩
theorem fC.Ce:∀ {as:List AV} {vs:List V} {ds:List PyData},fC K F0 env σ H as vs->kA as=some ds->DmL K (FF F0 env σ) H ds vs
 | [],_,ds,h,e=>by cases e;exact h
 | .dat d :: as,_,ds,h,e=>by
  obtain ⟨v,r,rfl,h1,h2⟩:=h;unfold kA at e;cases e2:kA as with
  | none=>rw [e2] at e;cases e
  | some ds' =>
   rw [e2] at e;cases e;exact ⟨v,r,rfl,h1,fC.Ce h2 e2⟩
 | .bor i :: as,_,ds,h,e=>by unfold kA at e;cases e
theorem eH.vn {d:PyData} {a c:Addr} (hc:H c=none) (h:eH K F I H d a):eH K F (fun b=>I b\/b=c) H d a:=by
 cases d with
 | list ds=>obtain ⟨xs,e,z,r⟩:=h;exact ⟨xs,e.fresh hc,z,r⟩
 | dict ds =>
  obtain ⟨ep,xs,n,e,z,r⟩:=h;exact ⟨ep,xs,fun q=>q.elim n fun q=>(by subst q;rw [hc] at e;cases e),e,z,r⟩
 | _=>exact absurd h id
theorem Rel.jZ (R:Rel K F0 H₀ I env σ H) (s:ax H H') {pr:PR} {v:V} (h:vQ K (FF F0 env σ) H H' pr v):c7 K F0 H₀ I env σ H' pr.rv v:=by
 cases pr with
 | dat d=>exact h
 | frs d =>
  obtain ⟨a,e,hn,t⟩:=h;refine ⟨a,e,R.fresh hn s ?_,t,R.oi (.inl hn),fun z=>R.dh z hn,fun i d' e' q=>?_,fun i d' e'=>?_⟩
  ·obtain ⟨o,q,_⟩:=t.wr;rw [q];exact nofun
  ·obtain ⟨o,z,_⟩:=R.iaT ⟨i,⟨d',.inr e'⟩,q⟩;rw [hn] at z;cases z
  ·obtain ⟨b,q,t'⟩:=R.ro i d' e';exact ⟨b,q,((t'.fresh hn).vn hn).pr (Pr.of_same s) (fun _ z=>z) (fun _ z=>z) fun b o z _=>s _ _ z⟩
theorem p9 (env:En) (i:Nat) (d:PyData):KpE env (fA env i d):=by
 unfold fA;cases e:env[i]? with
 | none=>exact KpE.refl _
 | some sl =>
  have hi:i < env.length:=(Hd.mp e).1;cases sl with
  | un=>exact KpE.refl _
  | dat _=>exact KpE.refl _
  | ro _=>exact KpE.refl _
  | own d' =>
   refine ⟨HF,fun j s h=>?_⟩;by_cases z:i=j
   ·subst z;rw [e] at h;cases h;exact ⟨.own d,by rw [Ho hi],.inl ⟨d,rfl⟩⟩
   ·exact ⟨s,by rw [Hf z];exact h,.refl s⟩
  | ino d' =>
   refine ⟨HF,fun j s h=>?_⟩;by_cases z:i=j
   ·subst z;rw [e] at h;cases h;exact ⟨.ino d,by rw [Ho hi],⟨d,rfl⟩⟩
   ·exact ⟨s,by rw [Hf z];exact h,.refl s⟩
def SmK (env env':En):Prop:=env'.length=env.length/\∀ i:Nat,env'[i]?=env[i]?\/(∃ d d',env[i]?=some (.own d)/\env'[i]?=some (.own d'))\/∃ d d',env[i]?=some (.ino d)/\env'[i]?=some (.ino d')
theorem SmK.refl (env:En):SmK env env:=⟨rfl,fun _=>.inl rfl⟩
theorem SmK.trans {e1 e2 e3:En} (a:SmK e1 e2) (b:SmK e2 e3):SmK e1 e3:=⟨b.1.trans a.1,fun i=>by
 rcases b.2 i with h | ⟨d,d',h,h'⟩ | ⟨d,d',h,h'⟩
 ·rw [h];exact a.2 i
 ·rcases a.2 i with q | ⟨c,c',q,q'⟩ | ⟨c,c',q,q'⟩
  ·exact .inr (.inl ⟨d,d',by rw [<- q];exact h,h'⟩)
  ·exact .inr (.inl ⟨c,d',q,h'⟩)
  ·rw [h] at q';cases q'
 ·rcases a.2 i with q | ⟨c,c',q,q'⟩ | ⟨c,c',q,q'⟩
  ·exact .inr (.inr ⟨d,d',by rw [<- q];exact h,h'⟩)
  ·rw [h] at q';cases q'
  ·exact .inr (.inr ⟨c,d',q,h'⟩)⟩
theorem SmK.kp (k:SmK env env'):KpE env env':=⟨k.1,fun i s e=>by
 rcases k.2 i with h | ⟨d,d',h,h'⟩ | ⟨d,d',h,h'⟩
 ·exact ⟨s,by rw [h];exact e,.refl s⟩
 ·rw [e] at h;cases h;exact ⟨_,h',.inl ⟨d',rfl⟩⟩
 ·rw [e] at h;cases h;exact ⟨_,h',⟨d',rfl⟩⟩⟩
theorem SmK.symm (k:SmK env env'):SmK env' env:=⟨k.1.symm,fun i=>by
 rcases k.2 i with h | ⟨d,d',h,h'⟩ | ⟨d,d',h,h'⟩
 ·exact .inl h.symm
 ·exact .inr (.inl ⟨d',d,h',h⟩)
 ·exact .inr (.inr ⟨d',d,h',h⟩)⟩
theorem SmK.ff (k:SmK env env'):FF F0 env' σ=FF F0 env σ:=by
 funext b;exact propext ⟨fun h=>k.kp.ff h,fun h=>k.symm.kp.ff h⟩
theorem SmK.ia (k:SmK env env'):IA env' σ=IA env σ:=by
 funext b;exact propext ⟨fun h=>k.kp.ia h,fun h=>k.symm.kp.ia h⟩
theorem cV (env:En) (i:Nat) (d:PyData):SmK env (fA env i d):=by
 unfold fA;cases e:env[i]? with
 | none=>exact SmK.refl _
 | some sl =>
  have hi:i < env.length:=(Hd.mp e).1;cases sl with
  | un=>exact SmK.refl _
  | dat _=>exact SmK.refl _
  | ro _=>exact SmK.refl _
  | own d' =>
   refine ⟨HF,fun j=>?_⟩;by_cases z:i=j
   ·subst z;exact .inr (.inl ⟨d',d,e,by rw [Ho hi]⟩)
   ·exact .inl (by rw [Hf z])
  | ino d' =>
   refine ⟨HF,fun j=>?_⟩;by_cases z:i=j
   ·subst z;exact .inr (.inr ⟨d',d,e,by rw [Ho hi]⟩)
   ·exact .inl (by rw [Hf z])
theorem jT {env:En} {i:Nat} {d:PyData} (h:mu env i):aC (fA env i d) i=some d:=by
 unfold fA aC;obtain ⟨d',e | e⟩:=h
 ·have hi:i < env.length:=(Hd.mp e).1;rw [e];simp only;rw [Ho hi]
 ·have hi:i < env.length:=(Hd.mp e).1;rw [e];simp only;rw [Ho hi]
theorem jR {env:En} {i j:Nat} {d:PyData} (h:j≠i):(fA env i d)[j]?=env[j]?:=by
 unfold fA;split <;> first | rfl | rw [Hf (Ne.symm h)]
theorem nG {env:En} {i:Nat} {d:PyData} (h:aC env i=some d):env[i]?=some (.own d)\/env[i]?=some (.ino d):=by
 unfold aC at h;split at h
 ·rename_i e;cases h;exact .inl e
 ·rename_i e;cases h;exact .inr e
 ·cases h
theorem Rel.chg (R:Rel K F0 H₀ I env σ H) (k:SmK env env') (hk:∀ b o,H b=some o->¬IA env σ b->H' b=some o) (ht:∀ i d a,aC env' i=some d->σ[i]?=some (some (.ref a))->Top K (FF F0 env σ) H' d a):Rel K F0 H₀ I env' σ H':=by
 have p:=R.m4 hk;have eF:=k.ff (F0:=F0) (σ:=σ);have eI:=k.ia (σ:=σ);have mc:∀ {i:Nat} {d:PyData},env'[i]?=some (.own d)\/env'[i]?=some (.ino d)->aC env' i=some d:=fun {i d} h=>by
  unfold aC;rcases h with h | h <;> rw [h]
 refine ⟨k.1.trans R.len,fun i d e=>?_,fun i d e=>?_,fun i d e=>?_,fun i d e=>?_,fun i j a h1 h2 h3 h4=>R.sep i j a (k.kp.mu h1) (k.kp.mu h2) h3 h4,fun b h=>?_,fun b o h n=>?_⟩
 ·rcases k.2 i with q | ⟨c,c',q,q'⟩ | ⟨c,c',q,q'⟩
  ·rw [e] at q;obtain ⟨v,s,r⟩:=R.dat i d q.symm;rw [eF];exact ⟨v,s,r.pr p fun _ z=>z⟩
  ·rw [e] at q';cases q'
  ·rw [e] at q';cases q'
 ·have hm:=mc (.inl e);obtain ⟨d0,e0⟩:=k.kp.own e;obtain ⟨a,s,n,w,_⟩:=R.own i d0 e0;rw [eF];exact ⟨a,s,n,w,ht i d a hm s⟩
 ·have hm:=mc (.inr e);have:∃ d0,env[i]?=some (.ino d0):=by
   rcases k.2 i with q | ⟨c,c',q,q'⟩ | ⟨c,c',q,q'⟩
   ·exact ⟨d,by rw [<- q];exact e⟩
   ·rw [e] at q';cases q'
   ·exact ⟨c,q⟩
  obtain ⟨d0,e0⟩:=this;obtain ⟨a,s,n,w,_⟩:=R.ino i d0 e0;rw [eF];exact ⟨a,s,n,w,ht i d a hm s⟩
 ·have e0:env[i]?=some (.ro d):=by
   rcases k.2 i with q | ⟨c,c',q,q'⟩ | ⟨c,c',q,q'⟩
   ·rw [<- q];exact e
   ·rw [e] at q';cases q'
   ·rw [e] at q';cases q'
  obtain ⟨a,s,t⟩:=R.ro i d e0;rw [eF,eI];exact ⟨a,s,t.pr p (fun _ z=>z) (fun _ z=>z) hk⟩
 ·by_cases z:IA env σ b
  ·obtain ⟨i,m,s⟩:=z;have m':=k.symm.kp.mu m;obtain ⟨d,m'⟩:=m';obtain ⟨o,q,_⟩:=(ht i d b (mc m') s).wr;rw [q];exact nofun
  ·cases e:H b with
   | none=>exact absurd e (R.dom b h)
   | some o=>rw [hk b o e z];exact nofun
 ·refine hk b o (R.cj b o h n) fun z=>?_;rcases R.iaI z with q | q
  ·rw [h] at q;cases q
  ·exact n q
end
open PySem
section
variable {K:Fg} {F F' I I' F0:Addr->Prop} {H H' H₀:Hp} {env env':En} {σ σ':St} {ga:Nat->V} {gd:List PyData}
theorem get_set {α:Type} {l:List α} {i j:Nat} {x y:α} (h:(l.set i x)[j]?=some y):(i=j/\x=y)\/(i≠j/\l[j]?=some y):=by
 by_cases z:i=j
 ·subst z;by_cases hi:i < l.length
  ·rw [Ho hi] at h;exact .inl ⟨rfl,HU h⟩
  ·rw [JN (by rw [HF];omega)] at h;cases h
 ·rw [Hf z] at h;exact .inr ⟨z,h⟩
theorem Rel.sub (R:Rel K F0 H₀ I env σ H) (i:Nat) (x:Option V):(∀ b,FF F0 (env.set i .un) (σ.set i x) b->FF F0 env σ b)/\(∀ b,IA (env.set i .un) (σ.set i x) b->IA env σ b):=by
 constructor
 ·rintro b (h | ⟨j,d,e,s⟩)
  ·exact .inl h
  ·rcases get_set e with ⟨_,z⟩ | ⟨n,e⟩
   ·cases z
   ·rw [Hf n] at s;exact .inr ⟨j,d,e,s⟩
 ·rintro b ⟨j,⟨d,e⟩,s⟩;have:∃ d,(env[j]?=some (.own d)\/env[j]?=some (.ino d))/\i≠j:=by
   rcases e with e | e
   ·rcases get_set e with ⟨_,z⟩ | ⟨n,e⟩
    ·cases z
    ·exact ⟨d,.inl e,n⟩
   ·rcases get_set e with ⟨_,z⟩ | ⟨n,e⟩
    ·cases z
    ·exact ⟨d,.inr e,n⟩
  obtain ⟨d,e,n⟩:=this;rw [Hf n] at s;exact ⟨j,⟨d,e⟩,s⟩
theorem Rel.forget (R:Rel K F0 H₀ I env σ H) (i:Nat) (x:Option V):Rel K F0 H₀ I (env.set i .un) (σ.set i x) H:=by
 obtain ⟨hf,hi⟩:=R.sub i x;have mm:∀ j,mu (env.set i .un) j->mu env j/\i≠j:=fun j h=>by
  obtain ⟨d,e | e⟩:=h
  ·rcases get_set e with ⟨_,z⟩ | ⟨n,e⟩
   ·cases z
   ·exact ⟨⟨d,.inl e⟩,n⟩
  ·rcases get_set e with ⟨_,z⟩ | ⟨n,e⟩
   ·cases z
   ·exact ⟨⟨d,.inr e⟩,n⟩
 refine ⟨by rw [HF,HF];exact R.len,fun j d e=>?_,fun j d e=>?_,fun j d e=>?_,fun j d e=>?_,fun j k a h1 h2 h3 h4=>?_,R.dom,R.cj⟩
 ·rcases get_set e with ⟨_,z⟩ | ⟨n,e⟩
  ·cases z
  obtain ⟨v,s,r⟩:=R.dat j d e;exact ⟨v,by rw [Hf n];exact s,r.mono hf⟩
 ·rcases get_set e with ⟨_,z⟩ | ⟨n,e⟩
  ·cases z
  obtain ⟨a,s,q,w,t⟩:=R.own j d e;exact ⟨a,by rw [Hf n];exact s,q,w,t.pr Pr.refl hf fun _ z=>z⟩
 ·rcases get_set e with ⟨_,z⟩ | ⟨n,e⟩
  ·cases z
  obtain ⟨a,s,q,w,t⟩:=R.ino j d e;exact ⟨a,by rw [Hf n];exact s,q,w,t.pr Pr.refl hf fun _ z=>z⟩
 ·rcases get_set e with ⟨_,z⟩ | ⟨n,e⟩
  ·cases z
  obtain ⟨a,s,t⟩:=R.ro j d e;exact ⟨a,by rw [Hf n];exact s,t.pr Pr.refl hf hi fun _ _ z _=>z⟩
 ·obtain ⟨m1,n1⟩:=mm j h1;obtain ⟨m2,n2⟩:=mm k h2;rw [Hf n1] at h3;rw [Hf n2] at h4;exact R.sep j k a m1 m2 h3 h4
theorem iP {i:Nat} {s:Sl} {x:Option V} (hu:env[i]?=some .un) (hs:∀ d,s≠.own d):FF F0 (env.set i s) (σ.set i x)=FF F0 env σ:=by
 funext b;apply propext;constructor
 ·rintro (h | ⟨j,d,e,q⟩)
  ·exact .inl h
  ·rcases get_set e with ⟨_,z⟩ | ⟨n,e⟩
   ·exact absurd z (hs d)
   ·rw [Hf n] at q;exact .inr ⟨j,d,e,q⟩
 ·rintro (h | ⟨j,d,e,q⟩)
  ·exact .inl h
  ·have n:i≠j:=fun z=>by subst z;rw [hu] at e;cases e
   exact .inr ⟨j,d,by rw [Hf n];exact e,by rw [Hf n];exact q⟩
theorem rV {i:Nat} {s:Sl} {x:Option V} (hu:env[i]?=some .un) (hs:∀ d,s≠.own d/\s≠.ino d):IA (env.set i s) (σ.set i x)=IA env σ:=by
 funext b;apply propext;constructor
 ·rintro ⟨j,⟨d,e | e⟩,q⟩
  ·rcases get_set e with ⟨_,z⟩ | ⟨n,e⟩
   ·exact absurd z (hs d).1
   ·rw [Hf n] at q;exact ⟨j,⟨d,.inl e⟩,q⟩
  ·rcases get_set e with ⟨_,z⟩ | ⟨n,e⟩
   ·exact absurd z (hs d).2
   ·rw [Hf n] at q;exact ⟨j,⟨d,.inr e⟩,q⟩
 ·rintro ⟨j,⟨d,e⟩,q⟩;have n:i≠j:=fun z=>by subst z;rw [hu] at e;rcases e with e | e <;> cases e
  refine ⟨j,⟨d,?_⟩,by rw [Hf n];exact q⟩;rw [Hf n];exact e
theorem Rel.putD (R:Rel K F0 H₀ I env σ H) {i:Nat} {d:PyData} {v:V} (hu:env[i]?=some .un) (h:Dm K (FF F0 env σ) H d v):Rel K F0 H₀ I (env.set i (.dat d)) (σ.set i (some v)) H:=by
 have hi:i < env.length:=(Hd.mp hu).1;have eF:FF F0 (env.set i (.dat d)) (σ.set i (some v))=FF F0 env σ:=iP hu (fun _=>nofun);have eI:IA (env.set i (.dat d)) (σ.set i (some v))=IA env σ:=rV hu (fun _=>⟨nofun,nofun⟩);have mm:∀ j,mu (env.set i (.dat d)) j->mu env j/\i≠j:=fun j h=>by
  obtain ⟨c,e | e⟩:=h
  ·rcases get_set e with ⟨_,z⟩ | ⟨n,e⟩
   ·cases z
   ·exact ⟨⟨c,.inl e⟩,n⟩
  ·rcases get_set e with ⟨_,z⟩ | ⟨n,e⟩
   ·cases z
   ·exact ⟨⟨c,.inr e⟩,n⟩
 refine ⟨by rw [HF,HF];exact R.len,fun j c e=>?_,fun j c e=>?_,fun j c e=>?_,fun j c e=>?_,fun j k a h1 h2 h3 h4=>?_,R.dom,R.cj⟩
 ·rw [eF];rcases get_set e with ⟨z,y⟩ | ⟨n,e⟩
  ·subst z;cases y;exact ⟨v,Ho (by rw [<- R.len];exact hi),h⟩
  obtain ⟨w,s,r⟩:=R.dat j c e;exact ⟨w,by rw [Hf n];exact s,r⟩
 ·rw [eF];rcases get_set e with ⟨_,z⟩ | ⟨n,e⟩
  ·cases z
  obtain ⟨a,s,q,w,t⟩:=R.own j c e;exact ⟨a,by rw [Hf n];exact s,q,w,t⟩
 ·rw [eF];rcases get_set e with ⟨_,z⟩ | ⟨n,e⟩
  ·cases z
  obtain ⟨a,s,q,w,t⟩:=R.ino j c e;exact ⟨a,by rw [Hf n];exact s,q,w,t⟩
 ·rw [eF,eI];rcases get_set e with ⟨_,z⟩ | ⟨n,e⟩
  ·cases z
  obtain ⟨a,s,t⟩:=R.ro j c e;exact ⟨a,by rw [Hf n];exact s,t⟩
 ·obtain ⟨m1,n1⟩:=mm j h1;obtain ⟨m2,n2⟩:=mm k h2;rw [Hf n1] at h3;rw [Hf n2] at h4;exact R.sep j k a m1 m2 h3 h4
theorem Rel.Fb {i:Nat} {d:PyData} {a:Addr} (hu:env[i]?=some .un) (h:c7 K F0 H₀ I env σ H (.frs d) (.ref a)):Rel K F0 H₀ I (env.set i (.own d)) (σ.set i (some (.ref a))) H:=by
 obtain ⟨a',ea,R,t,w,nF,hino,hro⟩:=h;cases ea;have hi:i < env.length:=(Hd.mp hu).1;have his:i < σ.length:=by rw [<- R.len];exact hi
 have eF:FF F0 (env.set i (.own d)) (σ.set i (some (.ref a)))=fun b=>FF F0 env σ b\/b=a:=by
  funext b;apply propext;constructor
  ·rintro (h | ⟨j,c,e,q⟩)
   ·exact .inl (.inl h)
   ·rcases get_set e with ⟨z,y⟩ | ⟨n,e⟩
    ·subst z;rw [Ho his] at q;cases q;exact .inr rfl
    ·rw [Hf n] at q;exact .inl (.inr ⟨j,c,e,q⟩)
  ·rintro ((h | ⟨j,c,e,q⟩) | rfl)
   ·exact .inl h
   ·have n:i≠j:=fun z=>by subst z;rw [hu] at e;cases e
    exact .inr ⟨j,c,by rw [Hf n];exact e,by rw [Hf n];exact q⟩
   ·exact .inr ⟨i,d,Ho hi,Ho his⟩
 have eF2:FF (fun b=>F0 b\/b=a) env σ=fun b=>FF F0 env σ b\/b=a:=et;have mm:∀ j,mu (env.set i (.own d)) j->i=j\/(mu env j/\i≠j):=fun j h=>by
  obtain ⟨c,e | e⟩:=h
  ·rcases get_set e with ⟨z,_⟩ | ⟨n,e⟩
   ·exact .inl z
   ·exact .inr ⟨⟨c,.inl e⟩,n⟩
  ·rcases get_set e with ⟨z,_⟩ | ⟨n,e⟩
   ·exact .inl z
   ·exact .inr ⟨⟨c,.inr e⟩,n⟩
 have eI:∀ b,IA (env.set i (.own d)) (σ.set i (some (.ref a))) b->IA env σ b\/b=a:=by
  rintro b ⟨j,m,q⟩;rcases mm j m with z | ⟨m',n⟩
  ·subst z;rw [Ho his] at q;cases q;exact .inr rfl
  ·rw [Hf n] at q;exact .inl ⟨j,m',q⟩
 have na:∀ j,mu env j->σ[j]?≠some (some (.ref a)):=fun j m q=>by
  obtain ⟨c,e | e⟩:=m
  ·exact nF (.inr ⟨j,c,e,q⟩)
  ·exact hino j c e q
 refine ⟨by rw [HF,HF];exact R.len,fun j c e=>?_,fun j c e=>?_,fun j c e=>?_,fun j c e=>?_,fun j k b h1 h2 h3 h4=>?_,fun b h=>R.dom b (.inl h),R.cj⟩
 ·rw [eF];rcases get_set e with ⟨_,z⟩ | ⟨n,e⟩
  ·cases z
  obtain ⟨x,s,r⟩:=R.dat j c e;rw [eF2] at r;exact ⟨x,by rw [Hf n];exact s,r⟩
 ·rw [eF];rcases get_set e with ⟨z,y⟩ | ⟨n,e⟩
  ·subst z;cases y;exact ⟨a,Ho his,fun z=>nF (.inl z),w,t⟩
  obtain ⟨b,s,q,w',t'⟩:=R.own j c e;rw [eF2] at t';exact ⟨b,by rw [Hf n];exact s,fun z=>q (.inl z),w',t'⟩
 ·rw [eF];rcases get_set e with ⟨_,z⟩ | ⟨n,e⟩
  ·cases z
  obtain ⟨b,s,q,w',t'⟩:=R.ino j c e;rw [eF2] at t';refine ⟨b,by rw [Hf n];exact s,?_,w',t'⟩;rcases q with q | q
  ·exact q
  ·subst q;exact absurd s (hino j c e)
 ·rw [eF];rcases get_set e with ⟨_,z⟩ | ⟨n,e⟩
  ·cases z
  obtain ⟨b,s,t'⟩:=hro j c e;exact ⟨b,by rw [Hf n];exact s,t'.pr Pr.refl (fun _ z=>z) eI fun _ _ z _=>z⟩
 ·rcases mm j h1 with z1 | ⟨m1,n1⟩
  ·rcases mm k h2 with z2 | ⟨m2,n2⟩
   ·rw [<- z1,<-z2]
   ·rw [<- z1,Ho his] at h3;cases h3;rw [Hf n2] at h4;exact absurd h4 (na k m2)
  ·rw [Hf n1] at h3;rcases mm k h2 with z2 | ⟨m2,n2⟩
   ·rw [<- z2,Ho his] at h4;cases h4;exact absurd h3 (na j m1)
   ·rw [Hf n2] at h4;exact R.sep j k b m1 m2 h3 h4
theorem Rel.take (R:Rel K F0 H₀ I env σ H) {i:Nat} {d:PyData} (e:env[i]?=some (.own d)):∃ a,σ[i]?=some (some (.ref a))/\c7 K F0 H₀ I (env.set i .un) σ H (.frs d) (.ref a):=by
 obtain ⟨a,s,nF0,w,t⟩:=R.own i d e;have hi:i < env.length:=(Hd.mp e).1;have mm:∀ j,mu (env.set i .un) j->mu env j/\i≠j:=fun j h=>by
  obtain ⟨c,e | e⟩:=h
  ·rcases get_set e with ⟨_,z⟩ | ⟨n,e⟩
   ·cases z
   ·exact ⟨⟨c,.inl e⟩,n⟩
  ·rcases get_set e with ⟨_,z⟩ | ⟨n,e⟩
   ·cases z
   ·exact ⟨⟨c,.inr e⟩,n⟩
 have eF:FF F0 env σ=fun b=>FF F0 (env.set i .un) σ b\/b=a:=by
  funext b;apply propext;constructor
  ·rintro (h | ⟨j,c,e',q⟩)
   ·exact .inl (.inl h)
   ·by_cases n:i=j
    ·subst n;rw [s] at q;cases q;exact .inr rfl
    ·exact .inl (.inr ⟨j,c,by rw [Hf n];exact e',q⟩)
  ·rintro ((h | ⟨j,c,e',q⟩) | rfl)
   ·exact .inl h
   ·rcases get_set e' with ⟨_,z⟩ | ⟨n,e'⟩
    ·cases z
    ·exact .inr ⟨j,c,e',q⟩
   ·exact .inr ⟨i,d,e,s⟩
 have eF2:FF (fun b=>F0 b\/b=a) (env.set i .un) σ=FF F0 env σ:=by rw [et];exact eF.symm
 have na:∀ j,mu (env.set i .un) j->σ[j]?≠some (some (.ref a)):=fun j m q=>by
  obtain ⟨m',n⟩:=mm j m;exact n (R.sep i j a ⟨d,.inl e⟩ m' s q)
 have nF:¬FF F0 (env.set i .un) σ a:=by
  rintro (h | ⟨j,c,e',q⟩)
  ·exact nF0 h
  ·exact na j ⟨c,.inl e'⟩ q
 have ia:∀ b,IA (env.set i .un) σ b->IA env σ b:=fun b ⟨j,m,q⟩=>⟨j,(mm j m).1,q⟩;have ia2:∀ b,(IA (env.set i .un) σ b\/b=a)->IA env σ b:=fun b h=>h.elim (ia b) fun z=>z▸⟨i,⟨d,.inl e⟩,s⟩;have R':Rel K (fun b=>F0 b\/b=a) H₀ I (env.set i .un) σ H:=by
  refine ⟨by rw [HF];exact R.len,fun j c e'=>?_,fun j c e'=>?_,fun j c e'=>?_,fun j c e'=>?_,fun j k b h1 h2 h3 h4=>R.sep j k b (mm j h1).1 (mm k h2).1 h3 h4,fun b h=>?_,R.cj⟩
  ·rw [eF2];rcases get_set e' with ⟨_,z⟩ | ⟨n,e'⟩
   ·cases z
   exact R.dat j c e'
  ·rw [eF2];have m:=e';rcases get_set e' with ⟨_,z⟩ | ⟨n,e'⟩
   ·cases z
   obtain ⟨b,s',q,w',t'⟩:=R.own j c e';exact ⟨b,s',fun z=>z.elim q fun z=>na j ⟨c,.inl m⟩ (z▸s'),w',t'⟩
  ·rw [eF2];rcases get_set e' with ⟨_,z⟩ | ⟨n,e'⟩
   ·cases z
   obtain ⟨b,s',q,w',t'⟩:=R.ino j c e';exact ⟨b,s',.inl q,w',t'⟩
  ·rw [eF2];rcases get_set e' with ⟨_,z⟩ | ⟨n,e'⟩
   ·cases z
   obtain ⟨b,s',t'⟩:=R.ro j c e';exact ⟨b,s',t'.pr Pr.refl (fun _ z=>z) ia fun _ _ z _=>z⟩
  ·rcases h with h | h
   ·exact R.dom b h
   ·obtain ⟨o,q,_⟩:=t.wr;rw [h,q];exact nofun
 refine ⟨a,s,a,rfl,R',by rw [eF] at t;exact t,w,nF,fun j c e'=>na j ⟨c,.inr e'⟩,fun j c e'=>?_⟩;rcases get_set e' with ⟨_,z⟩ | ⟨n,e'⟩
 ·cases z
 obtain ⟨b,s',t'⟩:=R.ro j c e';rw [eF] at t';exact ⟨b,s',t'.pr Pr.refl (fun _ z=>z) ia2 fun _ _ z _=>z⟩
theorem c7.rel {d:PyData} {v:V} (h:c7 K F0 H₀ I env σ H (.frs d) v):Rel K F0 H₀ I env σ H:=by
 obtain ⟨a,_,R,_,_,_,hi,_⟩:=h;exact R.less hi
theorem set_same {α:Type} {l:List α} {i:Nat} {x:α} (h:l[i]?=some x):l.set i x=l:=by
 have hi:i < l.length:=(Hd.mp h).1;apply List.ext_getElem?;intro j;by_cases z:i=j
 ·subst z;rw [Ho hi,h]
 ·rw [Hf z]
theorem Rel.mov (R:Rel K F0 H₀ I env σ H) {i:Nat} {d:PyData} (e:env[i]?=some (.own d)):∃ a,σ[i]?=some (some (.ref a))/\Rel K F0 H₀ I (env.set i (.dat d)) σ H/\Dm K (FF F0 (env.set i (.dat d)) σ) H d (.ref a):=by
 have hi:i < env.length:=(Hd.mp e).1;obtain ⟨a,s,h⟩:=R.take e;have R1:=h.rel;have hu:(env.set i .un)[i]?=some .un:=Ho hi;have hd:Dm K (FF F0 (env.set i .un) σ) H d (.ref a):=c7.av h;have R2:=R1.putD hu hd;rw [Ir,set_same s] at R2;refine ⟨a,s,R2,?_⟩;have eF:FF F0 (env.set i (.dat d)) σ=FF F0 (env.set i .un) σ:=by
  have:=iP (F0:=F0) (σ:=σ) (s:=.dat d) (x:=some (.ref a)) hu (fun _=>nofun);rw [Ir,set_same s] at this;exact this
 rw [eF];exact hd
theorem uY {i:Nat} {s s':Sl} (e:env[i]?=some s) (v:Evo s s'):KpE env (env.set i s'):=by
 have hi:i < env.length:=(Hd.mp e).1;refine ⟨HF,fun j t h=>?_⟩;by_cases z:i=j
 ·subst z;rw [e] at h;cases h;exact ⟨s',Ho hi,v⟩
 ·exact ⟨t,by rw [Hf z];exact h,.refl t⟩
end
open PySem
theorem mE (x y:Str):(x++y).cps=x.cps++y.cps:=rfl
theorem kR {x y:Str} (h:PyData.strOk x=true) (q:PyData.strOk y=true):PyData.strOk (x++y)=true:=by
 unfold PyData.strOk at h q ⊢;rw [mE,Array.all_append,h,q];rfl
def SE (K:Fg) (ga:Nat->V) (gd:List PyData) (e:XE):Prop:=∀ (env:En) (rv:RV) (env':En),dE gd e env=some (rv,env')->∀ (F0:Addr->Prop) (H₀:Hp) (I:Addr->Prop) (σ:St) (H:Hp) (Q:VK),Rel K F0 H₀ I env σ H ->
 (∀ v H',Rel K F0 H₀ I env' σ H'->KpE env env'->c7 K F0 H₀ I env' σ H' rv v->Q v H')->rE K ga e σ H Q
def SA (K:Fg) (ga:Nat->V) (gd:List PyData) (e:XA):Prop:=∀ (env:En) (rv:List AV) (env':En),dA gd e env=some (rv,env')->∀ (F0:Addr->Prop) (H₀:Hp) (I:Addr->Prop) (σ:St) (H:Hp) (Q:List V->Hp->Prop),Rel K F0 H₀ I env σ H ->
 (∀ v H',Rel K F0 H₀ I env' σ H'->KpE env env'->fC K F0 env' σ H' rv v->Q v H')->rA K ga e σ H Q
def SF (K:Fg) (ga:Nat->V) (gd:List PyData) (e:XA):Prop:=∀ (out:Str) (env:En) (x:Str) (env':En),dF gd e out env=some (x,env')->∀ (F0:Addr->Prop) (H₀:Hp) (I:Addr->Prop) (σ:St) (H:Hp) (Q:VK),Rel K F0 H₀ I env σ H ->
 PyData.strOk out=true->(∀ H',Rel K F0 H₀ I env' σ H'->KpE env env'->x.length<=sizeLine->PyData.strOk x=true->Q (.str x) H')->tFs (rF K ga e) out σ H Q
def Bf (K:Fg) (F:Addr->Prop) (H:Hp):List (Key×PyData)->List (Key×V)->Prop
 | [],vs=>vs=[]
 | (k,d) :: ds,vs=>∃ v r,vs=(k,v) :: r/\Dm K F H (kD k) (kV k)/\Dm K F H d v/\Bf K F H ds r
def SPs (K:Fg) (ga:Nat->V) (gd:List PyData) (e:XP):Prop:=∀ (env:En) (kvs:List (Key×PyData)) (env':En),dP gd e env=some (kvs,env')->∀ (F0:Addr->Prop) (H₀:Hp) (I:Addr->Prop) (σ:St) (H:Hp) (Q:List (V×V)->Hp->Prop),Rel K F0 H₀ I env σ H ->
 (∀ vs H',Rel K F0 H₀ I env' σ H'->KpE env env'->Bf K (FF F0 env' σ) H' kvs vs->Q (vs.map fun kv=>(kV kv.1,kv.2)) H')->nM (rP K ga e) σ H Q
def ST (K:Fg) (ga:Nat->V) (gd:List PyData) (e:XT):Prop:=∀ (env:En) (b:Bool) (env':En),dT gd e env=some (b,env')->∀ (F0:Addr->Prop) (H₀:Hp) (I:Addr->Prop) (σ:St) (H:Hp) (Q:Bool->Hp->Prop),Rel K F0 H₀ I env σ H ->
 (∀ H',Rel K F0 H₀ I env' σ H'->KpE env env'->Q b H')->rT K ga e σ H Q
def ItY (K:Fg) (F:Addr->Prop) (H H' H'':Hp) (d:PyData) (x:V):Prop:=(H''=H'/\Dm K F H d x)\/∃ p u v d1 d2,d=.tuple [d1,d2]/\x=.ref p/\H' p=none/\H''=upd H' p (.tup [u,v])/\Dm K F H d1 u/\Dm K F H d2 v
theorem ItY.dm {K:Fg} {F F2:Addr->Prop} {H H' H'':Hp} {d:PyData} {x:V} (h:ItY K F H H' H'' d x) (T:∀ d v,Dm K F H d v->Dm K F2 H' d v):ax H' H''/\Dm K F2 H'' d x:=by
 rcases h with ⟨rfl,h⟩ | ⟨p,u,v,d1,d2,rfl,rfl,hp,rfl,h1,h2⟩
 ·exact ⟨fun _ _ e=>e,T _ _ h⟩
 ·have sm:ax H' (upd H' p (.tup [u,v])):=fun b o e=>by rw [af (fun z=>by rw [z,hp] at e;cases e)];exact e
  refine ⟨sm,p,[u,v],rfl,SqT.of ah,Nat.le_of_ble_eq_true rfl,u,_,rfl,?_,v,_,rfl,?_,rfl⟩
  ·exact (T _ _ h1).pr (fun b o e _=>sm b o e) fun _ z=>z
  ·exact (T _ _ h2).pr (fun b o e _=>sm b o e) fun _ z=>z
def sQ (K:Fg) (F I:Addr->Prop) (H:Hp) (J:It) (ds:List PyData):Prop:=ds.length<=sizeLine/\∀ H',(∀ b o,H b=some o->¬I b->H' b=some o)->∀ k,(k < ds.length->J.go k H'/\∀ x H'',J.yld k H' x H''->∃ d,ds[k]?=some d/\ItY K F H H' H'' d x)/\(ds.length<=k->J.stop k H')
theorem ix {K:Fg} {F I:Addr->Prop} {H:Hp} {J:It} {ds:List PyData} {vs:List V} (hd:DmL K F H ds vs) (hl:vs.length<=sizeLine) (h:∀ H',(∀ b o,H b=some o->¬I b->H' b=some o)->∀ k,(k < vs.length->J.go k H'/\∀ x H'',J.yld k H' x H''->H''=H'/\vs[k]?=some x)/\(vs.length<=k->J.stop k H')):sQ K F I H J ds:=by
 have e:=hd.len;refine ⟨by omega,fun H' k j=>⟨fun hj=>?_,fun hj=>((h H' k j).2 (by omega))⟩⟩;obtain ⟨g,y⟩:=(h H' k j).1 (by omega);refine ⟨g,fun x H'' hx=>?_⟩;obtain ⟨e0,hx2⟩:=y x H'' hx;obtain ⟨d,h1,h2⟩:=hd.get' hx2;exact ⟨d,h1,.inl ⟨e0,h2⟩⟩
def SI (K:Fg) (ga:Nat->V) (gd:List PyData) (e:XI):Prop:=∀ (env:En) (ds:List PyData) (lock:Option Nat) (env':En),dI gd e env=some (ds,lock,env')->∀ (F0:Addr->Prop) (H₀:Hp) (I:Addr->Prop) (σ:St) (H:Hp) (R:It->Hp->Prop),Rel K F0 H₀ I env σ H ->
 (∀ J H',Rel K F0 H₀ I env' σ H'->KpE env env'->(∀ i,lock=some i->∃ d,cont env' i=some d)->sQ K (FF F0 env' σ) (fun b=>IA env' σ b/\∀ i,lock=some i->mu env' i->σ[i]?≠some (some (.ref b))) H' J ds->R J H')->rI_ K ga e σ H R
section
variable {K:Fg} {F F' I I' F0:Addr->Prop} {H H' H₀:Hp} {env env':En} {σ σ':St} {ga:Nat->V} {gd:List PyData}
theorem Dh (i:Nat):SE K ga gd (.var i):=by
 intro env rv env' h F0 H₀ I σ H Q R q;simp only [dE] at h;split at h
 ·rename_i d e;cases h;obtain ⟨v,s,r⟩:=R.dat i d e;exact ⟨v,s,q v H R (KpE.refl _) r⟩
 ·rename_i d e;cases h;obtain ⟨a,s,_⟩:=R.own i d e;exact ⟨_,s,q _ H R (KpE.refl _) s⟩
 ·rename_i d e;cases h;obtain ⟨a,s,_⟩:=R.ino i d e;exact ⟨_,s,q _ H R (KpE.refl _) s⟩
 ·rename_i d e;cases h;obtain ⟨a,s,_⟩:=R.ro i d e;exact ⟨_,s,q _ H R (KpE.refl _) s⟩
 ·cases h
theorem Cs (i:Nat):SE K ga gd (.mov i):=by
 intro env rv env' h F0 H₀ I σ H Q R q;simp only [dE] at h;split at h
 ·rename_i d e;cases h;obtain ⟨a,s,R',r⟩:=R.mov e;exact ⟨_,s,q _ H R' (uY e (.inr (.inl ⟨d,rfl⟩))) r⟩
 ·cases h
theorem CJ (i:Nat):SE K ga gd (.tke i):=by
 intro env rv env' h F0 H₀ I σ H Q R q;simp only [dE] at h;split at h
 ·rename_i d e;cases h;obtain ⟨a,s,r⟩:=R.take e;exact ⟨_,s,q _ H r.rel (uY e (.inr (.inr rfl))) r⟩
 ·cases h
theorem Eu (c:Cst):SE K ga gd (.cst c):=by
 intro env rv env' h F0 H₀ I σ H Q R q;simp only [dE] at h;cases h;exact q _ H R (KpE.refl _) (c.ok _ _ _)
theorem Dz (hg:∀ g d,gd[g]?=some d->∀ F H,Dm K F H d (ga g)) (g:Nat):SE K ga gd (.glb g):=by
 intro env rv env' h F0 H₀ I σ H Q R q;simp only [dE] at h;split at h
 ·rename_i d e;cases h;exact q _ H R (KpE.refl _) (hg g d e _ _)
 ·cases h
theorem Ed {p:Prm} {as:XA} (ih:SA K ga gd as):SE K ga gd (.prm p as):=by
 intro env rv env' h F0 H₀ I σ H Q R q;simp only [dE] at h;split at h
 ·rename_i avs e1 h1;split at h
  ·rename_i ds h2;split at h
   ·rename_i pr h3;cases h;refine ih _ _ _ h1 F0 H₀ I σ H _ R fun vs H1 R1 k1 a1=>?_;refine p.ok K _ H1 ds vs pr Q h3 (a1.vw R1 h2) (fun b z=>R1.dh z) fun v H2 s2 hp=>?_;exact q v H2 (R1.same s2) k1 (R1.jZ s2 hp)
   ·cases h
  ·cases h
 ·cases h
theorem CF {m:Mtd} {o:XE} {as:XA} (io:SE K ga gd o) (ih:SA K ga gd as):SE K ga gd (.met m o as):=by
 intro env rv env' h F0 H₀ I σ H Q R q;simp only [dE] at h;split at h
 ·rename_i rv0 e1 h1;split at h
  ·rename_i d0 h2;split at h
   ·rename_i hty;split at h
    ·rename_i avs e2 h3;split at h
     ·rename_i d ds h4 h5;split at h
      ·rename_i pr h6;cases h;refine io _ _ _ h1 F0 H₀ I σ H _ R fun v H1 R1 k1 a1=>?_;refine ⟨m.zm K _ H1 d0 v hty (a1.av.vw R1 h2),?_⟩;refine ih _ _ _ h3 F0 _ _ σ H1 _ R1.rebase fun vs H2 S2 k2 a2=>?_;have R2:=R1.aP S2;refine m.ok K _ H2 d v ds vs pr Q h6 ((a1.av.keep R1 S2 k2).vw R2 h4) (a2.vw R2 h5) (fun b z=>R2.dh z) fun v H3 s3 hp=>?_;exact q v H3 (R2.same s3) (k1.trans k2) (R2.jZ s3 hp)
      ·cases h
     ·cases h
    ·cases h
   ·cases h
  ·cases h
 ·cases h
theorem Rel.FE (R:Rel K F0 H₀ I env σ H) {i:Nat} {d d':PyData} {a:Addr} (hm:aC env i=some d) (s:σ[i]?=some (some (.ref a))) (hk:∀ b o,b≠a->H b=some o->H' b=some o) (ht:Top K (FF F0 env σ) H' d' a):Rel K F0 H₀ I (fA env i d') σ H':=by
 obtain ⟨m,a',s',_,_⟩:=R.cb hm;rw [s] at s';cases s';have hia:IA env σ a:=⟨i,m,s⟩;refine R.chg (cV env i d') (fun b o e n=>hk b o (fun z=>n (z▸hia)) e) fun j c b hc hs=>?_;by_cases z:j=i
 ·subst z;rw [jT m] at hc;cases hc;rw [s] at hs;cases hs;exact ht
 ·have hc':aC env j=some c:=by
   unfold aC at hc ⊢
   rwa [jR z] at hc
  obtain ⟨m2,b',s2,_,t2⟩:=R.cb hc';rw [hs] at s2;cases s2;have nb:b≠a:=fun y=>z (R.sep j i a m2 m (y▸hs) s);refine t2.pr (R.m4 fun b' o e n=>hk b' o (fun z=>n (z▸hia)) e) (fun _ z=>z) fun o e=>hk b o nb e
theorem Dw {m:Mtr} {i:Nat} {as:XA} (ih:SA K ga gd as):SE K ga gd (.mtr m i as):=by
 intro env rv env' h F0 H₀ I σ H Q R q;simp only [dE] at h;split at h
 ·rename_i d0 h0;split at h
  ·rename_i hty;split at h
   ·rename_i avs e1 h1;split at h
    ·rename_i d ds h2 h3;split at h
     ·rename_i d' pr h4;cases h;obtain ⟨_,a,s,f,t⟩:=R.cb h0;refine ⟨.ref a,s,m.zm K _ H d0 a hty t,?_⟩;refine ih _ _ _ h1 F0 H₀ I σ H _ R fun vs H1 R1 k1 a1=>?_;obtain ⟨m1,a',s',f1,t1⟩:=R1.cb h2;rw [s] at s';cases s';refine m.ok K _ H1 d a ds vs d' pr Q h4 f1 t1 (a1.mv R1 h3) fun v H2 hk ht hp=>?_;refine q v H2 (R1.FE h2 s hk ht) (k1.trans (p9 _ _ _)) ?_;show Dm K (FF F0 (fA e1 i d') σ) H2 pr v;rw [(cV e1 i d').ff (F0:=F0) (σ:=σ)];exact hp
     ·cases h
    ·cases h
   ·cases h
  ·cases h
 ·cases h
noncomputable def adr (σ:St) (i:Nat):Addr:=match σ[i]? with | some (some (.ref a))=>a | _=>0
theorem fh {i:Nat} {a:Addr} (h:σ[i]?=some (some (.ref a))):adr σ i=a:=by unfold adr;rw [h]
theorem jh {ms:List PM} {as:List AV} {ds:List PyData} {m:PM} {a:AV} (h:iH env (m :: ms) (a :: as)=some ds):∃ d r,ds=d :: r/\EK env m a=some d/\iH env ms as=some r:=by
 unfold iH at h;split at h
 ·rename_i d r e1 e2;cases h;exact ⟨d,r,rfl,e1,e2⟩
 ·cases h
theorem eH.bor {G I:Addr->Prop} {d:PyData} {a:Addr} (h:eH K G I H d a):x6 K G I H d (.ref a):=by cases d <;> first | exact ⟨a,rfl,h⟩ | exact absurd h id
theorem yM (R:Rel K F0 H₀ I env σ H) (all:List Nat) (hall:∀ i∈all,mu env i):∀ {ms:List PM} {as:List AV} {ds:List PyData} {vs:List V},iH env ms as=some ds->fC K F0 env σ H as vs->(bT ms as).Nodup->(∀ i∈sL ms as,i ∉ all)->(∀ i∈bT ms as,i∈all) ->
  bh K (FF F0 env σ) (·∈all.map (adr σ)) H ms ds vs ((bT ms as).map (adr σ)):=by
 have iAll:∀ b,b∈all.map (adr σ)->IA env σ b:=fun b hb=>by
  obtain ⟨i,hi,e⟩:=Hk.mp hb;have m:=hall i hi;obtain ⟨d,m'⟩:=m;have:∃ a,σ[i]?=some (some (.ref a)):=by
   rcases m' with z | z
   ·obtain ⟨a,s,_⟩:=R.own i d z;exact ⟨a,s⟩
   ·obtain ⟨a,s,_⟩:=R.ino i d z;exact ⟨a,s⟩
  obtain ⟨a,s⟩:=this;rw [fh s] at e;subst e;exact ⟨i,hall i hi,s⟩
 intro ms;induction ms with
 | nil =>
  intro as ds vs h q _ _ _;cases as with
  | nil=>cases h;rw [show vs=[] from q];rfl
  | cons a as=>cases h
 | cons m ms ih =>
  intro as ds vs h q nd hb hi;cases as with
  | nil=>cases h
  | cons a as =>
   obtain ⟨d,r,rfl,h1,h2⟩:=jh h;obtain ⟨v,vr,rfl,q1,q2⟩:=q;cases m with
   | dat =>
    cases a with
    | bor i=>cases h1
    | dat d' =>
     cases h1;exact ⟨q1,ih h2 q2 (by simpa [bT] using nd) (by simpa [sL] using hb) (by simpa [bT] using hi)⟩
   | bor =>
    cases a with
    | dat d' =>
     by_cases ct:∃ ts,d'=.tuple ts
     ·obtain ⟨ts,rfl⟩:=ct;cases h1;exact ⟨q1,ih h2 q2 (by simpa [bT] using nd) (by simpa [sL] using hb) (by simpa [bT] using hi)⟩
     have l:d'=d/\((∃ ds,d=.list ds)\/∃ ds,d=.dict ds):=by
      cases d' <;> first | exact absurd ⟨_,rfl⟩ ct | (cases h1;exact ⟨rfl,.inl ⟨_,rfl⟩⟩) | (cases h1;exact ⟨rfl,.inr ⟨_,rfl⟩⟩) | cases h1
     obtain ⟨rfl,l⟩:=l;obtain ⟨b,e,t⟩:=Dm.ro (I:=(·∈all.map (adr σ))) q1 (fun b z=>R.ia (iAll b z)) l;exact ⟨by rcases l with ⟨_,rfl⟩ | ⟨_,rfl⟩ <;> exact ⟨b,e,t⟩,ih h2 q2 (by simpa [bT] using nd) (by simpa [sL] using hb) (by simpa [bT] using hi)⟩
    | bor i =>
     have h1:cont env i=some d:=h1;have hb':i ∉ all:=hb i (by simp [sL]);refine ⟨?_,ih h2 q2 (by simpa [bT] using nd) (fun j hj=>hb j (by simp [sL,hj])) (by simpa [bT] using hi)⟩;unfold cont at h1;have na:∀ a,mu env i->σ[i]?=some (some (.ref a))->a ∉ all.map (adr σ):=fun a m s z=>by
      obtain ⟨j,hj,e⟩:=Hk.mp z;obtain ⟨k,mk,sk⟩:=iAll a z;obtain ⟨dj,mj⟩:=hall j hj;have:∃ c,σ[j]?=some (some (.ref c)):=by
       rcases mj with z | z
       ·obtain ⟨a,s,_⟩:=R.own j dj z;exact ⟨a,s⟩
       ·obtain ⟨a,s,_⟩:=R.ino j dj z;exact ⟨a,s⟩
      obtain ⟨c,sj⟩:=this;rw [fh sj] at e;subst e;have:=R.sep i j c m ⟨dj,mj⟩ s sj;subst this;exact hb' hj
     split at h1
     ·rename_i d' e;cases h1;obtain ⟨a,s,_,_,t⟩:=R.own i d e;rw [show σ[i]?=some (some v) from q1] at s;cases s;exact eH.bor (t.ro (na a ⟨d,.inl e⟩ q1))
     ·rename_i d' e;cases h1;obtain ⟨a,s,_,_,t⟩:=R.ino i d e;rw [show σ[i]?=some (some v) from q1] at s;cases s;exact eH.bor (t.ro (na a ⟨d,.inr e⟩ q1))
     ·rename_i d' e;cases h1;obtain ⟨a,s,t⟩:=R.ro i d e;rw [show σ[i]?=some (some v) from q1] at s;cases s;exact eH.bor (t.pr Pr.refl (fun _ z=>z) iAll fun _ _ z _=>z)
     ·cases h1
   | ino =>
    cases a with
    | dat d'=>cases h1
    | bor i =>
     have h1:aC env i=some d:=h1;obtain ⟨m,b,s,f,t⟩:=R.cb h1;rw [show σ[i]?=some (some v) from q1] at s;cases s;have nd':i ∉ bT ms as/\(bT ms as).Nodup:=by simpa [bT] using nd
     refine ⟨b,(bT ms as).map (adr σ),rfl,by simp [bT,fh q1],f,t,fun z=>?_,ih h2 q2 nd'.2 (by simpa [sL] using hb) (fun j hj=>hi j (by simp [bT,hj]))⟩;obtain ⟨j,hj,e⟩:=Hk.mp z;obtain ⟨dj,mj⟩:=hall j (hi j (by simp [bT,hj]));have:∃ c,σ[j]?=some (some (.ref c)):=by
      rcases mj with z | z
      ·obtain ⟨a,s,_⟩:=R.own j dj z;exact ⟨a,s⟩
      ·obtain ⟨a,s,_⟩:=R.ino j dj z;exact ⟨a,s⟩
     obtain ⟨c,sj⟩:=this;rw [fh sj] at e;subst e;have:=R.sep i j c m ⟨dj,mj⟩ q1 sj;subst this;exact nd'.1 hj
theorem qT:∀ {ms:List PM} {as:List AV} {ds:List PyData},iH env ms as=some ds->∀ i∈bT ms as,mu env i
 | [],[],_,_,i,h=>by simp [bT] at h
 | [],_ :: _,_,h,_,_=>by cases h
 | _ :: _,[],_,h,_,_=>by cases h
 | m :: ms,a :: as,_,h,i,hi=>by
  obtain ⟨d,r,rfl,h1,h2⟩:=jh h;have ih:=qT h2 i;cases m with
  | dat=>exact ih (by simpa [bT] using hi)
  | bor=>exact ih (by simpa [bT] using hi)
  | ino =>
   cases a with
   | dat d'=>cases h1
   | bor j =>
    simp only [bT,Hz] at hi;rcases hi with rfl | hi
    ·rcases nG h1 with e | e
     ·exact ⟨d,.inl e⟩
     ·exact ⟨d,.inr e⟩
    ·exact ih hi
theorem kz:∀ (env:En) (is:List Nat) (ds:List PyData),SmK env (cf env is ds)
 | env,[],ds=>by unfold cf;exact SmK.refl _
 | env,i :: is,[]=>by unfold cf;exact SmK.refl _
 | env,i :: is,d :: ds=>by unfold cf;exact (cV env i d).trans (kz _ is ds)
theorem gW:∀ (env:En) (is:List Nat) (ds:List PyData) (j:Nat),j ∉ is->(cf env is ds)[j]?=env[j]?
 | env,[],ds,j,_=>by unfold cf;rfl
 | env,i :: is,[],j,_=>by unfold cf;rfl
 | env,i :: is,d :: ds,j,h=>by
  unfold cf;have n:j≠i:=fun z=>h (by rw [z];exact Hu);rw [gW _ is ds j (fun z=>h (Hm _ z)),jR n]
theorem jw {G:Addr->Prop}:∀ {env:En} {is:List Nat} {ds:List PyData} {j:Nat} {c:PyData},is.Nodup->(∀ i∈is,mu env i)->gI K G H ds (is.map (adr σ))->j∈is->aC (cf env is ds) j=some c->Top K G H c (adr σ j)
 | env,[],ds,j,c,_,_,_,h,_=>by simp at h
 | env,i :: is,[],j,c,_,_,h,_,_=>by simp [gI] at h
 | env,i :: is,d :: ds,j,c,nd,hm,h,hj,hc=>by
  obtain ⟨n1,nd'⟩:=HZ.mp nd;have h':Top K G H d (adr σ i)/\gI K G H ds (is.map (adr σ)):=h;unfold cf at hc;rcases Hz.mp hj with rfl | hj
  ·have e:=gW (fA env j d) is ds j n1;have:aC (fA env j d) j=some c:=by unfold aC at hc ⊢;rwa [e] at hc
   rw [jT (hm j Hu)] at this;cases this;exact h'.1
  ·exact jw (env:=fA env i d) nd' (fun k hk=>(cV env i d).symm.kp.mu (hm k (Hm _ hk))) h'.2 hj hc
theorem fV:∀ {is:List Nat},xW is=true->is.Nodup
 | [],_=>List.nodup_nil
 | x :: xs,h=>by
  have h':xs.contains x=false/\xW xs=true:=by simpa [xW] using h
  exact HZ.mpr ⟨fun z=>by simp [z] at h',fV h'.2⟩
theorem x8 {is bs:List Nat} {n:Nat} (h:ckA is bs n=true):is.Nodup/\(∀ i∈bs,i ∉ is)/\n=is.length:=by
 unfold ckA at h;simp only [HN,IE,IW] at h;exact ⟨fV h.1,fun i hi z=>by have:=h.2.1 i hi;simp [z] at this,h.2.2⟩
theorem s_call {f:Fn} {as:XA} (ih:SA K ga gd as):SE K ga gd (.call f as):=by
 intro env rv env' h F0 H₀ I σ H Q R q;simp only [dE] at h;split at h
 ·rename_i avs e1 h1;unfold t8 at h;split at h
  ·cases h
  ·rename_i ds h2;split at h
   ·cases h
   ·rename_i pr outs h3;split at h
    ·rename_i hc;obtain ⟨nd,hb,hl⟩:=x8 hc;cases h;refine ih _ _ _ h1 F0 H₀ I σ H _ R fun vs H1 R1 k1 a1=>?_;show bz f K (vs++[]) H1 Q NoE;rw [JK];have hmu:=qT h2;refine ⟨FF F0 e1 σ,ds,(bT f.ms avs).map (adr σ),pr,outs,h3,yM R1 (bT f.ms avs) hmu h2 a1 nd hb (fun _ z=>z),fun b z=>R1.dh z,fun v H2 hk hr=>?_⟩;have k:=kz e1 (bT f.ms avs) outs;have eF:=k.ff (F0:=F0) (σ:=σ);have eI:=k.ia (σ:=σ);have isIA:∀ b,b∈(bT f.ms avs).map (adr σ)->IA e1 σ b:=fun b hb=>by
      obtain ⟨i,hi,e⟩:=Hk.mp hb;obtain ⟨d,m'⟩:=hmu i hi;have:∃ a,σ[i]?=some (some (.ref a)):=by
       rcases m' with z | z
       ·obtain ⟨a,s,_⟩:=R1.own i d z;exact ⟨a,s⟩
       ·obtain ⟨a,s,_⟩:=R1.ino i d z;exact ⟨a,s⟩
      obtain ⟨a,s⟩:=this;rw [fh s] at e;subst e;exact ⟨i,hmu i hi,s⟩
     have hk':∀ b o,H1 b=some o->¬IA e1 σ b->H2 b=some o:=fun b o e n=>hk b o e fun z=>n (isIA b z);have kO:∀ j d a,j ∉ bT f.ms avs->aC (cf e1 (bT f.ms avs) outs) j=some d->σ[j]?=some (some (.ref a))->aC e1 j=some d/\a ∉ (bT f.ms avs).map (adr σ):=fun j d a hj hm hs=>by
      have hm':aC e1 j=some d:=by unfold aC at hm ⊢;rwa [gW _ _ _ _ hj] at hm
      refine ⟨hm',fun z=>?_⟩;obtain ⟨i,hi,e⟩:=Hk.mp z;obtain ⟨i',m2,s2⟩:=isIA a z;obtain ⟨di,mi⟩:=hmu i hi;have:∃ a,σ[i]?=some (some (.ref a)):=by
       rcases mi with z | z
       ·obtain ⟨a,s,_⟩:=R1.own i di z;exact ⟨a,s⟩
       ·obtain ⟨a,s,_⟩:=R1.ino i di z;exact ⟨a,s⟩
      obtain ⟨c,sc⟩:=this;rw [fh sc] at e;subst e;have:=R1.sep j i c (R1.cb hm').1 ⟨di,mi⟩ hs sc;subst this;exact hj hi
     cases pr with
     | dat d =>
      obtain ⟨hd,ht⟩:=hr;refine q v H2 (R1.chg k hk' fun j c a hm hs=>?_) (k1.trans k.kp) (show Dm K _ H2 d v by rw [eF];exact hd);by_cases hj:j∈bT f.ms avs
      ·have:=jw nd hmu ht hj hm
       rwa [fh hs] at this
      ·obtain ⟨hm',ha⟩:=kO j c a hj hm hs;obtain ⟨_,a',s',_,t'⟩:=R1.cb hm';rw [hs] at s';cases s';exact t'.pr (R1.m4 hk') (fun _ z=>z) fun o e=>hk a o e ha
     | frs d =>
      obtain ⟨c,ev,hn,td,ht⟩:=hr;obtain ⟨o,ho,_⟩:=td.wr;have sm:ax H1 (upd H1 c o):=ax.nw o hn;have R1c:=R1.fresh (c:=c) hn sm (by rw [ah];exact nofun);have cIA:¬IA e1 σ c:=fun z=>by obtain ⟨o',z,_⟩:=R1.iaT z;rw [hn] at z;cases z
      have hkc:∀ b o',upd H1 c o b=some o'->¬IA e1 σ b->H2 b=some o':=fun b o' e n=>by
       by_cases z:b=c
       ·subst z;rw [ah] at e;cases e;exact ho
       ·rw [af z] at e;exact hk' b o' e n
      have pF:Pr (fun b=>FF F0 e1 σ b\/b=c) H1 H2:=fun b o' e n=>hk' b o' e fun y=>by
       rcases n with n | n
       ·exact n (.inl (R1.ia y))
       ·obtain ⟨o2,h2,w2⟩:=R1.iaT y;rw [e] at h2;cases h2;rw [n] at w2;cases w2
      have R2c:Rel K (fun b=>F0 b\/b=c) H₀ I (cf e1 (bT f.ms avs) outs) σ H2:=by
       refine R1c.chg k hkc fun j c' a hm hs=>?_;rw [et];by_cases hj:j∈bT f.ms avs
       ·have:=jw nd hmu ht hj hm
        rwa [fh hs] at this
       ·obtain ⟨hm',ha⟩:=kO j c' a hj hm hs;obtain ⟨_,a',s',_,t'⟩:=R1.cb hm';rw [hs] at s';cases s';exact (t'.fresh hn).pr pF (fun _ z=>z) fun o e=>hk a o e ha
      have nino:∀ (i:Nat) (d':PyData),(cf e1 (bT f.ms avs) outs)[i]?=some (.ino d')->σ[i]?≠some (some (.ref c)):=fun i d' e' z=>cIA ⟨i,k.kp.mu ⟨d',.inr e'⟩,z⟩;have rv:c7 K F0 H₀ I (cf e1 (bT f.ms avs) outs) σ H2 (.frs d) v:=by
       refine ⟨c,ev,R2c,by rw [eF];exact td,R1.oi (.inl hn),fun z=>?_,nino,fun i d' e'=>?_⟩
       ·rw [eF] at z;exact R1.dh z hn
       ·have e0:e1[i]?=some (.ro d'):=by
         rcases k.2 i with y | ⟨_,_,_,y⟩ | ⟨_,_,_,y⟩
         ·rw [<- y];exact e'
         ·rw [e'] at y;cases y
         ·rw [e'] at y;cases y
        obtain ⟨b,s,t⟩:=R1.ro i d' e0;rw [eF,eI];exact ⟨b,s,((t.fresh hn).vn hn).pr pF (fun _ z=>z) (fun _ z=>z) fun b o' e n=>hk' b o' e fun z=>n (.inl z)⟩
      exact q v H2 rv.rel (k1.trans k.kp) rv
    ·cases h
 ·cases h
theorem Ei {as:XA} (ih:SA K ga gd as):SE K ga gd (.tup as):=by
 intro env rv env' h F0 H₀ I σ H Q R q;simp only [dE] at h;split at h
 ·rename_i avs e1 h1;split at h
  ·rename_i ds h2;split at h
   ·rename_i hl;cases h;refine ih _ _ _ h1 F0 H₀ I σ H _ R fun vs H1 R1 k1 a1=>?_;have dl:=a1.Ce h2;have hl':vs.length<=sizeLine:=by rw [dl.len];exact hl
    refine ⟨hl',fun p hp=>?_⟩;have s:=ax.nw (.tup vs) hp;exact q _ _ (R1.same s) k1 ⟨p,vs,rfl,.inl (.inl ah),hl',dl.pr (Pr.of_same s) fun _ z=>z⟩
   ·cases h
  ·cases h
 ·cases h
theorem CL {as:XA} (ih:SA K ga gd as):SE K ga gd (.lst as):=by
 intro env rv env' h F0 H₀ I σ H Q R q;simp only [dE] at h;split at h
 ·rename_i avs e1 h1;split at h
  ·rename_i ds h2;split at h
   ·rename_i hl;cases h;refine ih _ _ _ h1 F0 H₀ I σ H _ R fun vs H1 R1 k1 a1=>?_;have dl:=a1.Ce h2;have hl':vs.length<=sizeLine:=by rw [dl.len];exact hl
    refine ⟨hl',fun p hp=>?_⟩;have s:=ax.nw (.lst vs) hp;exact q _ _ (R1.same s) k1 (R1.jZ (pr:=.frs (.list ds)) s ⟨p,rfl,hp,vs,ah,hl',(dl.fresh hp).pr (Pr.of_same s) fun _ z=>z⟩)
   ·cases h
  ·cases h
 ·cases h
theorem Cr {as:XA} (ih:SF K ga gd as):SE K ga gd (.fst as):=by
 intro env rv env' h F0 H₀ I σ H Q R q;simp only [dE] at h;split at h
 ·rename_i x e1 h1;cases h;exact ih _ _ _ _ h1 F0 H₀ I σ H _ R (show PyData.strOk ⟨#[]⟩=true by simp [PyData.strOk]) fun H1 R1 k1 hl ho=>q _ H1 R1 k1 ⟨rfl,hl,ho⟩
 ·cases h
theorem Cv:SF K ga gd .nil:=by
 intro out env x env' h F0 H₀ I σ H Q R ok q;simp only [dF] at h;split at h
 ·rename_i hl;cases h;exact ⟨hl,q H R (KpE.refl _) hl ok⟩
 ·cases h
theorem zS {e:XE} {r:XA} (ie:SE K ga gd e) (ir:SF K ga gd r):SF K ga gd (.cons e r):=by
 intro out env x env' h F0 H₀ I σ H Q R ok q;simp only [dF] at h;split at h
 ·rename_i y e1 h1;split at h
  ·rename_i hl;refine ie _ _ _ h1 F0 H₀ I σ H _ R fun v H1 R1 k1 a1=>?_;obtain ⟨rfl,_,oky⟩:=(show v=.str y/\y.length<=sizeLine/\PyData.strOk y=true from a1);refine ⟨y,rfl,hl,?_⟩;exact ir _ _ _ _ h F0 H₀ I σ H1 _ R1 (kR ok oky) fun H2 R2 k2 hx=>q H2 R2 (k1.trans k2) hx
  ·cases h
 ·cases h
theorem D6:SA K ga gd .nil:=by
 intro env rv env' h F0 H₀ I σ H Q R q;simp only [dA] at h;cases h;exact q [] H R (KpE.refl _) rfl
theorem BK {e:XE} {r:XA} (ie:SE K ga gd e) (ir:SA K ga gd r):SA K ga gd (.cons e r):=by
 intro env rv env' h F0 H₀ I σ H Q R q;simp only [dA] at h;split at h
 ·rename_i rv0 e1 h1;split at h
  ·rename_i avs e2 h2;cases h;refine ie _ _ _ h1 F0 H₀ I σ H _ R fun v H1 R1 k1 a1=>?_;refine ir _ _ _ h2 F0 _ _ σ H1 _ R1.rebase fun vs H2 S2 k2 a2=>?_;exact q (v :: vs) H2 (R1.aP S2) (k1.trans k2) ⟨v,vs,rfl,a1.av.keep R1 S2 k2,a2⟩
  ·cases h
 ·cases h
end
open PySem
section
variable {K:Fg} {F F' I I' F0:Addr->Prop} {H H' H₀:Hp} {env env':En} {σ σ':St} {ga:Nat->V} {gd:List PyData}
theorem El {c:XT} {a b:XE} (ic:ST K ga gd c) (ia:SE K ga gd a) (ib:SE K ga gd b):SE K ga gd (.ifx c a b):=by
 intro env rv env' h F0 H₀ I σ H Q R q;simp only [dE] at h;split at h
 ·rename_i e1 h1;refine ic _ _ _ h1 F0 H₀ I σ H _ R fun H1 R1 k1=>?_;rw [Ht rfl];exact ia _ _ _ h F0 H₀ I σ H1 _ R1 fun v H2 R2 k2 r=>q v H2 R2 (k1.trans k2) r
 ·rename_i e1 h1;refine ic _ _ _ h1 F0 H₀ I σ H _ R fun H1 R1 k1=>?_;rw [Hv (by decide)];exact ib _ _ _ h F0 H₀ I σ H1 _ R1 fun v H2 R2 k2 r=>q v H2 R2 (k1.trans k2) r
 ·cases h
theorem Ba {a b:XE} (ia:SE K ga gd a) (ib:SE K ga gd b):SE K ga gd (.q0 a b):=by
 intro env rv env' h F0 H₀ I σ H Q R q;simp only [dE] at h;split at h
 ·rename_i e1 h1;refine ia _ _ _ h1 F0 H₀ I σ H _ R fun v H1 R1 k1 r1=>⟨true,r1,?_⟩;rw [Ht rfl];exact ib _ _ _ h F0 H₀ I σ H1 _ R1 fun v H2 R2 k2 r=>q v H2 R2 (k1.trans k2) r
 ·rename_i e1 h1;cases h;refine ia _ _ _ h1 F0 H₀ I σ H _ R fun v H1 R1 k1 r1=>⟨false,r1,?_⟩;rw [Hv (by decide)];exact q _ H1 R1 k1 rfl
 ·cases h
theorem DG {a b:XE} (ia:SE K ga gd a) (ib:SE K ga gd b):SE K ga gd (.orv a b):=by
 intro env rv env' h F0 H₀ I σ H Q R q;simp only [dE] at h;split at h
 ·rename_i e1 h1;cases h;refine ia _ _ _ h1 F0 H₀ I σ H _ R fun v H1 R1 k1 r1=>⟨true,r1,?_⟩;rw [Ht rfl];exact q _ H1 R1 k1 rfl
 ·rename_i e1 h1;refine ia _ _ _ h1 F0 H₀ I σ H _ R fun v H1 R1 k1 r1=>⟨false,r1,?_⟩;rw [Hv (by decide)];exact ib _ _ _ h F0 H₀ I σ H1 _ R1 fun v H2 R2 k2 r=>q v H2 R2 (k1.trans k2) r
 ·cases h
theorem BA {a:XE} (ia:SE K ga gd a):SE K ga gd (.yq a):=by
 intro env rv env' h F0 H₀ I σ H Q R q;simp only [dE] at h;split at h
 ·rename_i x e1 h1;cases h;exact ia _ _ _ h1 F0 H₀ I σ H _ R fun v H1 R1 k1 r1=>⟨x,r1,q _ H1 R1 k1 rfl⟩
 ·cases h
theorem Ci {x y:PyData} {u v:V} (hx:Vw K F H x u) (hy:Vw K F H y v):VwL K F H [x,y] [u,v]:=⟨u,[v],rfl,hx,v,[],rfl,hy,rfl⟩
theorem Eg {p p':Prm} {a b c:XE} (ia:SE K ga gd a) (ib:SE K ga gd b) (ic:SE K ga gd c):SE K ga gd (.chn p p' a b c):=by
 intro env rv env' h F0 H₀ I σ H Q R q;simp only [dE] at h;split at h
 ·rename_i ra e1 h1;split at h
  ·rename_i rb e2 h2;split at h
   ·rename_i x y hx hy;refine ia _ _ _ h1 F0 H₀ I σ H _ R fun v H1 R1 k1 r1=>?_;refine ib _ _ _ h2 F0 _ _ σ H1 _ R1.rebase fun u H2 S2 k2 r2=>?_;have R2:=R1.aP S2;have a1:=r1.av.keep R1 S2 k2;have a2:=r2.av;rw [hx] at a1;rw [hy] at a2;have dx:Dm K (FF F0 e2 σ) H2 x v:=a1;have dy:Dm K (FF F0 e2 σ) H2 y u:=a2;split at h
    ·rename_i hp;split at h
     ·rename_i rc e3 h3;split at h
      ·rename_i z hz;split at h
       ·rename_i pr hq;cases h;refine p.ok K _ H2 _ _ _ _ hp (Ci dx.vw dy.vw) (fun b z=>R2.dh z) fun w H3 s3 hw=>⟨true,hw,?_⟩;rw [Ht rfl];have R3:=R2.same s3;have dy3:Dm K (FF F0 e2 σ) H3 y u:=dy.pr (Pr.of_same s3) fun _ z=>z;refine ic _ _ _ h3 F0 _ _ σ H3 _ R3.rebase fun t H4 S4 k4 r4=>?_;have R4:=R3.aP S4;have a4:=r4.av;rw [hz] at a4;have dz:Dm K (FF F0 env' σ) H4 z t:=a4;refine p'.ok K _ H4 _ _ _ _ hq (Ci (R3.nV S4 k4 dy3).vw dz.vw) (fun b z=>R4.dh z) fun w H5 s5 hw=>?_;exact q w H5 (R4.same s5) ((k1.trans k2).trans k4) (R4.jZ s5 hw)
       ·cases h
      ·cases h
     ·cases h
    ·rename_i hp;cases h;refine p.ok K _ H2 _ _ _ _ hp (Ci dx.vw dy.vw) (fun b z=>R2.dh z) fun w H3 s3 hw=>⟨false,hw,?_⟩;rw [Hv (by decide)];exact q _ H3 (R2.same s3) (k1.trans k2) rfl
    ·cases h
   ·cases h
  ·cases h
 ·cases h
theorem DP {p:Int->Int->Prm} {a b c:XE} (ia:SE K ga gd a) (ib:SE K ga gd b) (ic:SE K ga gd c):SE K ga gd (.sl2 p a b c):=by
 intro env rv env' h F0 H₀ I σ H Q R q;simp only [dE] at h;split at h
 ·rename_i ra e1 h1;split at h
  ·rename_i i e2 h2;split at h
   ·rename_i j e3 h3;split at h
    ·rename_i d hv;split at h
     ·rename_i pr hp;cases h;refine ia _ _ _ h1 F0 H₀ I σ H _ R fun v H1 R1 k1 r1=>?_;refine ib _ _ _ h2 F0 _ _ σ H1 _ R1.rebase fun u H2 S2 k2 r2=>⟨i,r2,?_⟩;have R2:=R1.aP S2;have a1:=r1.av.keep R1 S2 k2;refine ic _ _ _ h3 F0 _ _ σ H2 _ R2.rebase fun w H3 S3 k3 r3=>⟨j,r3,?_⟩;have R3:=R2.aP S3;have a2:=a1.keep R2 S3 k3;refine (p i j).ok K _ H3 [d] [v] pr Q hp ⟨v,[],rfl,a2.vw R3 hv,rfl⟩ (fun b z=>R3.dh z) fun w H4 s4 hw=>?_;exact q w H4 (R3.same s4) ((k1.trans k2).trans k3) (R3.jZ s4 hw)
     ·cases h
    ·cases h
   ·cases h
  ·cases h
 ·cases h
theorem Ds {e:XE} (ie:SE K ga gd e):ST K ga gd (.tst e):=by
 intro env b env' h F0 H₀ I σ H Q R q;simp only [dT] at h;split at h
 ·rename_i x e1 h1;cases h;exact ie _ _ _ h1 F0 H₀ I σ H _ R fun v H1 R1 k1 r1=>⟨_,r1,q H1 R1 k1⟩
 ·cases h
theorem ji {ds:List PyData} {vs:List V} (h:DmL K F H ds vs):vs.isEmpty=ds.isEmpty:=by
 cases ds with
 | nil=>rw [show vs=[] from h];rfl
 | cons d ds=>obtain ⟨v,r,rfl,_⟩:=h;rfl
theorem Vw.tru {d:PyData} {v:V} (h:Vw K F H d v) (nd:Di d≠true):Ca K v H (CV d):=by
 cases d with
 | none=>rw [show v=.non from h];rfl
 | bool b=>rw [show v=.bl b from h];rfl
 | int i=>rw [show v=.int i from h];rfl
 | str x=>obtain ⟨rfl,hl,_⟩:=(show v=.str x/\x.length<=sizeLine/\PyData.strOk x=true from h);exact ⟨hl,rfl⟩
 | list ds=>obtain ⟨a,rfl,xs,e,_,r⟩:=h;exact .inl ⟨xs,e,by rw [ji r];rfl⟩
 | tuple ds=>obtain ⟨a,xs,rfl,e,_,r⟩:=h;exact .inr (.inl ⟨xs,e,by rw [ji r];rfl⟩)
 | dict ds=>exact absurd rfl nd
theorem EF {e:XE} (ie:SE K ga gd e):ST K ga gd (.tru e):=by
 intro env b env' h F0 H₀ I σ H Q R q;simp only [dT] at h;split at h
 ·rename_i x e1 h1;split at h
  ·rename_i d h2;split at h
   ·cases h
   ·rename_i nd;cases h;exact ie _ _ _ h1 F0 H₀ I σ H _ R fun v H1 R1 k1 r1=>⟨_,(r1.av.vw R1 h2).tru nd,q H1 R1 k1⟩
  ·cases h
 ·cases h
theorem Dp {a b:XT} (ia:ST K ga gd a) (ib:ST K ga gd b):ST K ga gd (.and a b):=by
 intro env x env' h F0 H₀ I σ H Q R q;simp only [dT] at h;split at h
 ·rename_i e1 h1;refine ia _ _ _ h1 F0 H₀ I σ H _ R fun H1 R1 k1=>?_;rw [Ht rfl];exact ib _ _ _ h F0 H₀ I σ H1 _ R1 fun H2 R2 k2=>q H2 R2 (k1.trans k2)
 ·rename_i e1 h1;cases h;refine ia _ _ _ h1 F0 H₀ I σ H _ R fun H1 R1 k1=>?_;rw [Hv (by decide)];exact q H1 R1 k1
 ·cases h
theorem F6 {a b:XT} (ia:ST K ga gd a) (ib:ST K ga gd b):ST K ga gd (.or a b):=by
 intro env x env' h F0 H₀ I σ H Q R q;simp only [dT] at h;split at h
 ·rename_i e1 h1;cases h;refine ia _ _ _ h1 F0 H₀ I σ H _ R fun H1 R1 k1=>?_;rw [Ht rfl];exact q H1 R1 k1
 ·rename_i e1 h1;refine ia _ _ _ h1 F0 H₀ I σ H _ R fun H1 R1 k1=>?_;rw [Hv (by decide)];exact ib _ _ _ h F0 H₀ I σ H1 _ R1 fun H2 R2 k2=>q H2 R2 (k1.trans k2)
 ·cases h
theorem C1 {a:XT} (ia:ST K ga gd a):ST K ga gd (.not a):=by
 intro env x env' h F0 H₀ I σ H Q R q;simp only [dT] at h;split at h
 ·rename_i b e1 h1;cases h;exact ia _ _ _ h1 F0 H₀ I σ H _ R fun H1 R1 k1=>q H1 R1 k1
 ·cases h
theorem Dy:ST K ga gd .yes:=by
 intro env x env' h F0 H₀ I σ H Q R q;simp only [dT] at h;cases h;exact q H R (KpE.refl _)
theorem vS {a:Addr} {vs:List V} {ds:List PyData} (hd:DmL K F H ds vs) (hl:vs.length<=sizeLine) (h:∀ H',(∀ b o,H b=some o->¬I b->H' b=some o)->SqL K H' a vs):sQ K F I H (Itl K a) ds :=
 ix hd hl fun H' k j=>⟨fun hj=>⟨⟨vs,vs[j],h H' k,Hc hj⟩,fun x H'' y=>⟨y.1,y.2 vs (h H' k)⟩⟩,fun hj=>⟨vs,h H' k,hj⟩⟩
theorem Ab {a:Addr} {vs:List V} {ds:List PyData} (hd:DmL K F H ds vs) (hl:vs.length<=sizeLine) (h:∀ H',(∀ b o,H b=some o->¬I b->H' b=some o)->SqT K H' a vs):sQ K F I H (Itt K a) ds :=
 ix hd hl fun H' k j=>⟨fun hj=>⟨⟨vs,vs[j],h H' k,Hc hj⟩,fun x H'' y=>⟨y.1,y.2 vs (h H' k)⟩⟩,fun hj=>⟨vs,h H' k,hj⟩⟩
theorem xq {e:XE} (ie:SE K ga gd e):SI K ga gd (.lst e):=by
 intro env ds lock env' h F0 H₀ I σ H Q R q;simp only [dI] at h;split at h
 ·rename_i rv e1 h1;split at h
  ·rename_i ds' hv;cases h;refine ie _ _ _ h1 F0 H₀ I σ H _ R fun v H1 R1 k1 r1=>?_;have a1:=r1.av;rw [hv] at a1;obtain ⟨a,xs,rfl,l,z,r⟩:=(show Dm K (FF F0 env' σ) H1 (.list ds) v from a1);refine ⟨a,rfl,⟨xs,l.elim (fun q=>.inl q.2) .inr⟩,q _ H1 R1 k1 (fun i z=>by cases z) (vS r z fun H' k=>?_)⟩;rcases l with ⟨n,l | ⟨o,l⟩⟩ | l
   ·exact .inl (.inl (k _ _ l fun z=>n (R1.ia z.1)))
   ·exact .inl (.inr ⟨o,k _ _ l fun z=>n (R1.ia z.1)⟩)
   ·exact .inr l
  ·cases h
  ·rename_i i hv;split at h
   ·rename_i ds' hc;cases h;refine ie _ _ _ h1 F0 H₀ I σ H _ R fun v H1 R1 k1 r1=>?_;have a1:=r1.av;rw [hv] at a1;have s:σ[i]?=some (some v):=a1;unfold cont at hc;have fin:∀ a xs,v=.ref a->DmL K (FF F0 env' σ) H1 ds xs->xs.length<=sizeLine->(∀ H',(∀ b o,H1 b=some o->¬(IA env' σ b/\∀ j,some i=some j->mu env' j->σ[j]?≠some (some (.ref b)))->H' b=some o)->SqL K H' a xs)->(∃ d,cont env' i=some d) ->
      ∃ a,v=.ref a/\(∃ xs,SqL K H1 a xs)/\Q (Itl K a) H1:=fun a xs ev r z k hcd =>
     ⟨a,ev,⟨xs,k H1 fun _ _ e _=>e⟩,q _ H1 R1 k1 (fun j hj=>by cases hj;exact hcd) (vS r z k)⟩
    split at hc
    ·rename_i d e;cases hc;obtain ⟨a,s',_,_,xs,t,z,r⟩:=R1.own i _ e;rw [s] at s';cases s';exact fin a xs rfl r z (fun H' k=>.inl (.inl (k _ _ t fun y=>y.2 i rfl ⟨_,.inl e⟩ s))) ⟨_,by unfold cont;rw [e]⟩
    ·rename_i d e;cases hc;obtain ⟨a,s',_,_,xs,t,z,r⟩:=R1.ino i _ e;rw [s] at s';cases s';exact fin a xs rfl r z (fun H' k=>.inl (.inl (k _ _ t fun y=>y.2 i rfl ⟨_,.inr e⟩ s))) ⟨_,by unfold cont;rw [e]⟩
    ·rename_i d e;cases hc;obtain ⟨a,s',xs,l,z,r⟩:=R1.ro i _ e;rw [s] at s';cases s';refine fin a xs rfl r z (fun H' k=>?_) ⟨_,by unfold cont;rw [e]⟩;rcases l with ⟨n,l | ⟨o,l⟩⟩ | l
     ·exact .inl (.inl (k _ _ l fun z=>n z.1))
     ·exact .inl (.inr ⟨o,k _ _ l fun z=>n z.1⟩)
     ·exact .inr l
    ·cases hc
   ·cases h
 ·cases h
theorem rH:∀ {kvs:List (PyData×PyData)} {xs:List (PyData×V×V)},DmP K F H kvs xs->DmL K F H (kvs.map (·.1)) (xs.map (·.2.1))
 | [],xs,h=>by rw [show xs=[] from h];rfl
 | (k,d) :: kvs,xs,h=>by
  obtain ⟨j,v,r,rfl,_,h0,_,h2⟩:=h;exact ⟨j,_,rfl,h0,rH h2⟩
theorem uZ {a:Addr} {ep:Nat} {xs:List (PyData×V×V)} {kvs:List (PyData×PyData)} (hd:DmP K F H kvs xs) (hl:xs.length<=sizeLine) (h:∀ H':Hp,(∀ b o,H b=some o->¬I b->H' b=some o)->H' a=some (.dD ep xs)):sQ K F I H (Itd a ep xs) (kvs.map (·.1)) :=
 ix (vs:=xs.map (·.2.1)) (rH hd) (by rw [Hb];exact hl) fun H' k j=>⟨fun hj=>⟨⟨h H' k,by rw [Hb] at hj;exact hj⟩,fun x H'' y=>⟨y.1,by rw [Hi];exact y.2⟩⟩,fun hj=>⟨h H' k,by rw [Hb] at hj;exact hj⟩⟩
theorem DJ {e:XE} (ie:SE K ga gd e):SI K ga gd (.dct e):=by
 intro env ds lock env' h F0 H₀ I σ H Q R q;simp only [dI] at h;split at h
 ·rename_i rv e1 h1;split at h
  ·rename_i kvs hv;cases h;refine ie _ _ _ h1 F0 H₀ I σ H _ R fun v H1 R1 k1 r1=>?_;have a1:=r1.av;rw [hv] at a1;obtain ⟨a,ep,xs,rfl,n,l,z,r⟩:=(show Dm K (FF F0 env' σ) H1 (.dict kvs) v from a1);exact ⟨a,ep,xs,rfl,l,q _ H1 R1 k1 (fun i z=>by cases z) (uZ r z fun H' k=>k _ _ l fun z=>n (R1.ia z.1))⟩
  ·cases h
  ·rename_i i hv;split at h
   ·rename_i kvs hc;cases h;refine ie _ _ _ h1 F0 H₀ I σ H _ R fun v H1 R1 k1 r1=>?_;have a1:=r1.av;rw [hv] at a1;have s:σ[i]?=some (some v):=a1;unfold cont at hc;have fin:∀ a ep xs,v=.ref a->DmP K (FF F0 env' σ) H1 kvs xs->xs.length<=sizeLine->(∀ H':Hp,(∀ b o,H1 b=some o->¬(IA env' σ b/\∀ j,some i=some j->mu env' j->σ[j]?≠some (some (.ref b)))->H' b=some o)->H' a=some (.dD ep xs))->(∃ d,cont env' i=some d) ->
      ∃ a ep xs,v=.ref a/\H1 a=some (.dD ep xs)/\Q (Itd a ep xs) H1:=fun a ep xs ev r z k hcd =>
     ⟨a,ep,xs,ev,k H1 fun _ _ e _=>e,q _ H1 R1 k1 (fun j hj=>by cases hj;exact hcd) (uZ r z k)⟩
    split at hc
    ·rename_i d e;cases hc;obtain ⟨a,s',_,_,ep,xs,t,z,r⟩:=R1.own i _ e;rw [s] at s';cases s';exact fin a ep xs rfl r z (fun H' k=>k _ _ t fun y=>y.2 i rfl ⟨_,.inl e⟩ s) ⟨_,by unfold cont;rw [e]⟩
    ·rename_i d e;cases hc;obtain ⟨a,s',_,_,ep,xs,t,z,r⟩:=R1.ino i _ e;rw [s] at s';cases s';exact fin a ep xs rfl r z (fun H' k=>k _ _ t fun y=>y.2 i rfl ⟨_,.inr e⟩ s) ⟨_,by unfold cont;rw [e]⟩
    ·rename_i d e;cases hc;obtain ⟨a,s',ep,xs,n,l,z,r⟩:=R1.ro i _ e;rw [s] at s';cases s';exact fin a ep xs rfl r z (fun H' k=>k _ _ l fun z=>n z.1) ⟨_,by unfold cont;rw [e]⟩
    ·cases hc
   ·cases h
 ·cases h
theorem qy:∀ {kvs:List (PyData×PyData)} {xs:List (PyData×V×V)},DmP K F H kvs xs->(kvs.all fun p=>k7 p.1)=true->TkX xs
 | [],xs,h,_=>by rw [show xs=[] from h];intro x hx;cases hx
 | (k,d) :: kvs,xs,h,hk=>by
  obtain ⟨j,v,r,rfl,_,h0,_,h2⟩:=h;rw [List.all_cons,HN] at hk;intro x hx;rcases Hz.mp hx with rfl | hx
  ·cases k with
   | str t=>exact ⟨t,rfl,h0.1⟩
   | _=>cases hk.1
  ·exact qy h2 hk.2 x hx
theorem vE:∀ {kvs:List (PyData×PyData)} {xs:List (PyData×V×V)} {i:Nat} {x:PyData×V×V},DmP K F H kvs xs->xs[i]?=some x->∃ k d,kvs[i]?=some (k,d)/\Dm K F H k x.2.1/\Dm K F H d x.2.2
 | [],xs,i,x,h,e=>by rw [show xs=[] from h] at e;cases e
 | (k,d) :: kvs,xs,i,x,h,e=>by
  obtain ⟨j,v,r,rfl,_,h0,h1,h2⟩:=h;cases i with
  | zero=>cases e;exact ⟨k,d,rfl,h0,h1⟩
  | succ i=>exact vE (i:=i) h2 e
theorem jq:∀ {kvs:List (PyData×PyData)} {xs:List (PyData×V×V)},DmP K F H kvs xs->kvs.length=xs.length
 | [],xs,h=>by rw [show xs=[] from h];rfl
 | (k,d) :: kvs,xs,h=>by
  obtain ⟨j,v,r,rfl,_,_,_,h2⟩:=h;rw [Hx,Hx,jq h2]
theorem zw {a:Addr} {ep:Nat} {xs:List (PyData×V×V)} {kvs:List (PyData×PyData)} (hd:DmP K F H kvs xs) (tk:TkX xs) (hl:xs.length<=sizeLine) (h:∀ H':Hp,(∀ b o,H b=some o->¬I b->H' b=some o)->H' a=some (.dD ep xs)):sQ K F I H (Iti a ep xs) (kvs.map fun p=>.tuple [p.1,p.2]):=by
 have el:(kvs.map fun p=>PyData.tuple [p.1,p.2]).length=xs.length:=by rw [Hb,jq hd]
 refine ⟨by rw [el];exact hl,fun H' k j=>⟨fun hj=>?_,fun hj=>?_⟩⟩
 ·rw [el] at hj;refine ⟨⟨h H' k,tk,hj⟩,?_⟩;rintro x H'' ⟨p,y,hp,rfl,hy,rfl⟩;obtain ⟨c,d,e1,d1,d2⟩:=vE hd hy;refine ⟨.tuple [c,d],?_,.inr ⟨p,y.2.1,y.2.2,c,d,rfl,rfl,hp,rfl,d1,d2⟩⟩;rw [Hi,e1];rfl
 ·rw [el] at hj;exact ⟨h H' k,tk,hj⟩
theorem EU {e:XE} (ie:SE K ga gd e):SI K ga gd (.itm e):=by
 intro env ds lock env' h F0 H₀ I σ H Q R q;simp only [dI] at h;split at h
 ·rename_i rv e1 h1;split at h
  ·rename_i kvs hv;split at h
   ·rename_i hk;cases h;refine ie _ _ _ h1 F0 H₀ I σ H _ R fun v H1 R1 k1 r1=>?_;have a1:=r1.av;rw [hv] at a1;obtain ⟨a,ep,xs,rfl,n,l,z,r⟩:=(show Dm K (FF F0 env' σ) H1 (.dict kvs) v from a1);exact ⟨a,ep,xs,rfl,l,qy r hk,q _ H1 R1 k1 (fun i z=>by cases z) (zw r (qy r hk) z fun H' k=>k _ _ l fun z=>n (R1.ia z.1))⟩
   ·cases h
  ·cases h
 ·cases h
theorem z4 {e:XE} (ie:SE K ga gd e):SI K ga gd (.tup e):=by
 intro env ds lock env' h F0 H₀ I σ H Q R q;simp only [dI] at h;split at h
 ·rename_i rv e1 h1;split at h
  ·rename_i ds' hv;cases h;refine ie _ _ _ h1 F0 H₀ I σ H _ R fun v H1 R1 k1 r1=>?_;have a1:=r1.av;rw [hv] at a1;obtain ⟨a,xs,rfl,l,z,r⟩:=(show Dm K (FF F0 env' σ) H1 (.tuple ds) v from a1);refine ⟨a,rfl,⟨xs,l⟩,q _ H1 R1 k1 (fun i z=>by cases z) (Ab r z fun H' k=>?_)⟩;exact l.pr (R1.m4 fun b o e n=>k b o e fun z=>n z.1)
  ·cases h
 ·cases h
theorem Gf {e:XE} (ie:SE K ga gd e):SI K ga gd (.sq e):=by
 intro env ds lock env' h F0 H₀ I σ H Q R q;simp only [dI] at h;split at h
 ·rename_i rv e1 h1;split at h
  ·rename_i ds' hv;exact .inl (xq ie env ds lock env' (by simp only [dI,h1,hv];exact h) F0 H₀ I σ H Q R q)
  ·rename_i ds' hv;exact .inr (z4 ie env ds lock env' (by simp only [dI,h1,hv];exact h) F0 H₀ I σ H Q R q)
  ·cases h
  ·rename_i i hv;exact .inl (xq ie env ds lock env' (by simp only [dI,h1,hv];exact h) F0 H₀ I σ H Q R q)
 ·cases h
theorem zc:∀ {cs:List Nat},(∀ c∈cs,c < 0x110000)->DmL K F H (cs.map fun c=>.str ⟨#[c]⟩) (cs.map fun c=>.str ⟨#[c]⟩)
 | [],_=>rfl
 | c :: cs,h=>⟨_,_,rfl,⟨rfl,by show 1<=sizeLine;decide,by have:=h c Hu;simp [PyData.strOk,this]⟩,zc fun x hx=>h x (Hm _ hx)⟩
theorem gF {x:Str} (h:PyData.strOk x=true):∀ c∈x.cps.toList,c < 0x110000:=fun c hc=>by
 unfold PyData.strOk at h;have:=Array.all_eq_true'.mp h c (by simpa using hc);simpa using this
theorem Ej {e:XE} (ie:SE K ga gd e):SI K ga gd (.str e):=by
 intro env ds lock env' h F0 H₀ I σ H Q R q;simp only [dI] at h;split at h
 ·rename_i rv e1 h1;split at h
  ·rename_i x hv;cases h;refine ie _ _ _ h1 F0 H₀ I σ H _ R fun v H1 R1 k1 r1=>?_;have a1:=r1.av;rw [hv] at a1;obtain ⟨rfl,hl,ok⟩:=(show v=.str x/\x.length<=sizeLine/\PyData.strOk x=true from a1);have ez:x.cps.toList.length=x.length:=by simp [Str.length]
   refine ⟨x,rfl,q _ H1 R1 k1 (fun i z=>by cases z) (ix (zc (gF ok)) (by rw [Hb,ez];exact hl) fun H' k j=>⟨fun hj=>?_,fun hj=>?_⟩)⟩
   ·rw [Hb,ez] at hj;refine ⟨hj,fun y H'' hy=>?_⟩;obtain ⟨e,c,hc,rfl⟩:=hy;refine ⟨e,?_⟩;rw [Hi];have:x.cps.toList[j]?=some c:=by rw [<- hc];simp
    rw [this];rfl
   ·rw [Hb,ez] at hj;exact hj
  ·cases h
 ·cases h
theorem vG {f:Nat->Int}:∀ {cs:List Nat},DmL K F H (cs.map fun c=>.int (f c)) (cs.map fun c=>.int (f c))
 | []=>rfl
 | c :: cs=>⟨_,_,rfl,rfl,vG⟩
theorem vc {lo:Int} {n:Nat} (hn:n<=sizeLine):sQ K F I H (Itr lo n) ((List.range n).map fun (k:Nat)=>.int (lo+(k:Int))):=by
 refine ix (vs:=(List.range n).map fun (k:Nat)=>.int (lo+(k:Int))) (vG (f:=fun k=>lo+(k:Int))) (by rw [Hb,Ie];exact hn) fun H' k j=>⟨fun hj=>?_,fun hj=>?_⟩
 ·rw [Hb,Ie] at hj;refine ⟨hj,fun y H'' hy=>⟨hy.1,?_⟩⟩;rw [Hi,List.getElem?_range hj,hy.2];rfl
 ·rw [Hb,Ie] at hj;exact hj
theorem Bb {as:XA} (ia:SA K ga gd as):SI K ga gd (.rng1 as):=by
 intro env ds lock env' h F0 H₀ I σ H Q R q;simp only [dI] at h;split at h
 ·rename_i avs e1 h1;split at h
  ·rename_i j;split at h
   ·rename_i hj;cases h;refine ia _ _ _ h1 F0 H₀ I σ H _ R fun vs H1 R1 k1 a1=>?_;obtain ⟨v,r,rfl,hv,rfl⟩:=a1;have hv:v=.int j:=hv;subst hv;refine ⟨j,rfl,hj.1,by have:=hj.2;omega,q _ H1 R1 k1 (fun i z=>by cases z) (vc ?_)⟩;have:=hj.2;show j.toNat<=2 ^ 24;omega
   ·cases h
  ·cases h
 ·cases h
theorem zQ {a b:Addr} {xs ys:List V} {ds es:List PyData} (hd:DmL K F H ds xs) (he:DmL K F H es ys) (hl:xs.length<=sizeLine) (h1:∀ H',(∀ b o,H b=some o->¬I b->H' b=some o)->SqL K H' a xs) (h2:∀ H',(∀ b o,H b=some o->¬I b->H' b=some o)->SqL K H' b ys):sQ K F I H (Itz K a b xs ys) ((ds.zip es).map fun p=>.tuple [p.1,p.2]):=by
 have e1:=hd.len;have e2:=he.len;have el:((ds.zip es).map fun p=>PyData.tuple [p.1,p.2]).length=min xs.length ys.length:=by rw [Hb,List.length_zip,e1,e2]
 refine ⟨by rw [el];omega,fun H' k j=>⟨fun hj=>?_,fun hj=>?_⟩⟩
 ·rw [el] at hj;refine ⟨⟨h1 H' k,h2 H' k,by omega,by omega⟩,?_⟩;rintro x H'' ⟨p,u,v,hp,rfl,hu,hv,rfl⟩;obtain ⟨d,d1,d2⟩:=hd.get' hu;obtain ⟨e,e3,e4⟩:=he.get' hv;refine ⟨.tuple [d,e],?_,.inr ⟨p,u,v,d,e,rfl,rfl,hp,rfl,d2,e4⟩⟩;rw [Hi,show (ds.zip es)[j]?=some (d,e) from List.getElem?_zip_eq_some.mpr ⟨d1,e3⟩];rfl
 ·rw [el] at hj;exact ⟨h1 H' k,h2 H' k,by omega⟩
theorem Dv {as:XA} (ia:SA K ga gd as):SI K ga gd (.zip as):=by
 intro env ds lock env' h F0 H₀ I σ H Q R q;simp only [dI] at h;split at h
 ·rename_i avs e1 h1;split at h
  ·rename_i x y;split at h
   ·rename_i xs ys hx hy;cases h;refine ia _ _ _ h1 F0 H₀ I σ H _ R fun vs H1 R1 k1 a1=>?_;obtain ⟨v,r,rfl,hv,w,r2,rfl,hw,rfl⟩:=a1;have one:∀ {x:AV} {xs:List PyData} {v:V},roL env' x=some xs->vv K F0 env' σ H1 x v->∃ a us,v=.ref a/\us.length<=sizeLine/\DmL K (FF F0 env' σ) H1 xs us/\∀ H',(∀ b o,H1 b=some o->¬(IA env' σ b/\∀ i,none=some i->mu env' i->σ[i]?≠some (some (.ref b)))->H' b=some o)->SqL K H' a us:=by
     intro x xs v hx hv;unfold roL at hx;split at hx
     ·cases hx;obtain ⟨a,us,rfl,l,z,r⟩:=(show Dm K (FF F0 env' σ) H1 (.list xs) v from hv);refine ⟨a,us,rfl,z,r,fun H' k=>?_⟩;rcases l with ⟨n,l | ⟨o,l⟩⟩ | l
      ·exact .inl (.inl (k _ _ l fun z=>n (R1.ia z.1)))
      ·exact .inl (.inr ⟨o,k _ _ l fun z=>n (R1.ia z.1)⟩)
      ·exact .inr l
     ·rename_i i;split at hx
      ·rename_i e;cases hx;have s:σ[i]?=some (some v):=hv;obtain ⟨a,s',us,l,z,r⟩:=R1.ro i _ e;rw [s] at s';cases s';refine ⟨a,us,rfl,z,r,fun H' k=>?_⟩;rcases l with ⟨n,l | ⟨o,l⟩⟩ | l
       ·exact .inl (.inl (k _ _ l fun z=>n z.1))
       ·exact .inl (.inr ⟨o,k _ _ l fun z=>n z.1⟩)
       ·exact .inr l
      ·cases hx
     ·cases hx
    obtain ⟨a,us,rfl,za,ra,sa⟩:=one hx hv;obtain ⟨b,ws,rfl,zb,rb,sb⟩:=one hy hw;exact ⟨a,b,us,ws,rfl,sa H1 fun _ _ e _=>e,sb H1 fun _ _ e _=>e,q _ H1 R1 k1 (fun i z=>by cases z) (zQ ra rb za sa sb)⟩
   ·cases h
  ·cases h
 ·cases h
theorem zi {as:XA} (ia:SA K ga gd as):SI K ga gd (.rng2 as):=by
 intro env ds lock env' h F0 H₀ I σ H Q R q;simp only [dI] at h;split at h
 ·rename_i avs e1 h1;split at h
  ·rename_i i j;split at h
   ·rename_i hj;cases h;refine ia _ _ _ h1 F0 H₀ I σ H _ R fun vs H1 R1 k1 a1=>?_;obtain ⟨v,r,rfl,hv,w,r2,rfl,hw,rfl⟩:=a1;have hv:v=.int i:=hv;have hw:w=.int j:=hw;subst hv hw;refine ⟨i,j,rfl,⟨hj.1,hj.2.1,hj.2.2.1,hj.2.2.2.1⟩,q _ H1 R1 k1 (fun i z=>by cases z) (vc ?_)⟩;have:=hj.2.2.2.2;show (j - i).toNat<=2 ^ 24;omega
   ·cases h
  ·cases h
 ·cases h
end
open PySem
section
variable {K:Fg} {F F' I I' F0:Addr->Prop} {H H' H₀:Hp} {env env':En} {σ σ':St} {ga:Nat->V} {gd:List PyData}
theorem c7.carry {d:PyData} {p:Addr} (h:c7 K F0 H₀ I env σ H (.frs d) (.ref p)) (S:Rel K (fun b=>F0 b\/b=p) H (IA env σ) env' σ H') (k:KpE env env'):c7 K F0 H₀ I env' σ H' (.frs d) (.ref p):=by
 obtain ⟨a,ea,R,t,w,nF,hi,hr⟩:=h;cases ea;have cIA:¬IA env σ p:=fun z=>by
  obtain ⟨i,⟨c,e | e⟩,s⟩:=z
  ·exact nF (.inr ⟨i,c,e,s⟩)
  ·exact hi i c e s
 have R':=R.aP S;have hk:∀ b o,H b=some o->¬IA env σ b->H' b=some o:=S.cj;have pF:Pr (fun b=>FF F0 env σ b\/b=p) H H':=by
  have:=R.m4 hk
  rwa [et] at this
 have hf:∀ b,(FF F0 env' σ b\/b=p)->(FF F0 env σ b\/b=p):=fun b z=>z.imp (fun z=>k.ff z) id;refine ⟨p,rfl,R',t.pr pF hf fun o e=>hk p o e cIA,w,fun z=>nF (k.ff z),fun i c e s=>cIA ⟨i,k.mu ⟨c,.inr e⟩,s⟩,fun i c e=>?_⟩;obtain ⟨s,e0,ev⟩:=k.back e;have es:s=.ro c:=by
  cases s with
  | un=>cases ev
  | dat _=>cases ev
  | own _=>rcases ev with ⟨_,v⟩ | ⟨_,v⟩ | v <;> cases v
  | ino _=>obtain ⟨_,v⟩:=ev;cases v
  | ro d'=>cases ev;rfl
 subst es;obtain ⟨b,q,t'⟩:=hr i c e0;exact ⟨b,q,t'.pr pF hf (fun b z=>z.imp (fun z=>k.ia z) id) fun b o e n=>hk b o e fun z=>n (.inl z)⟩
theorem c7.put {d d':PyData} {p:Addr} {o:HO} (h:c7 K F0 H₀ I env σ H (.frs d) (.ref p)) (ht:Top K (fun b=>FF F0 env σ b\/b=p) (upd H p o) d' p):c7 K F0 H₀ I env σ (upd H p o) (.frs d') (.ref p):=by
 obtain ⟨a,ea,R,t,w,nF,hi,hr⟩:=h;cases ea;have cIA:¬IA env σ p:=fun z=>by
  obtain ⟨i,⟨c,e | e⟩,s⟩:=z
  ·exact nF (.inr ⟨i,c,e,s⟩)
  ·exact hi i c e s
 have pF:Pr (fun b=>FF F0 env σ b\/b=p) H (upd H p o):=fun b u e n=>by
  by_cases z:b=p
  ·subst z;rcases n with n | n
   ·exact absurd (.inr rfl) n
   ·obtain ⟨o',h',w'⟩:=t.wr;rw [e] at h';cases h';rw [n] at w';cases w'
  ·rw [af z];exact e
 have eF:FF (fun b=>F0 b\/b=p) env σ=fun b=>FF F0 env σ b\/b=p:=et;have nea:∀ i b,mu env i->σ[i]?=some (some (.ref b))->b≠p:=fun i b m s z=>cIA (z▸⟨i,m,s⟩);have hro:∀ (i:Nat) (d':PyData),env[i]?=some (.ro d')->∃ b,σ[i]?=some (some (.ref b))/\eH K (fun b=>FF F0 env σ b\/b=p) (fun b=>IA env σ b\/b=p) (upd H p o) d' b:=fun i c e=>by
  obtain ⟨b,q,t'⟩:=hr i c e;exact ⟨b,q,t'.pr pF (fun _ z=>z) (fun _ z=>z) fun b u e n=>by rw [af (fun z=>n (.inr z))];exact e⟩
 refine ⟨p,rfl,⟨R.len,fun i c e=>?_,fun i c e=>?_,fun i c e=>?_,fun i c e=>?_,R.sep,fun b hb=>?_,fun b u e n=>?_⟩,ht,w,nF,hi,hro⟩
 ·obtain ⟨v,s,r⟩:=R.dat i c e;rw [eF] at r ⊢;exact ⟨v,s,r.pr pF fun _ z=>z⟩
 ·obtain ⟨b,s,n,w',t'⟩:=R.own i c e;rw [eF] at t' ⊢;exact ⟨b,s,n,w',t'.pr pF (fun _ z=>z) fun u e'=>by rw [af (nea i b ⟨c,.inl e⟩ s)];exact e'⟩
 ·obtain ⟨b,s,n,w',t'⟩:=R.ino i c e;rw [eF] at t' ⊢;exact ⟨b,s,n,w',t'.pr pF (fun _ z=>z) fun u e'=>by rw [af (nea i b ⟨c,.inr e⟩ s)];exact e'⟩
 ·obtain ⟨b,s,t'⟩:=hro i c e;rw [eF];exact ⟨b,s,t'.pr Pr.refl (fun _ z=>z) (fun _ z=>.inl z) fun _ _ z _=>z⟩
 ·by_cases z:b=p
  ·subst z;rw [ah];exact nofun
  ·rw [af z];exact R.dom b hb
 ·have:=R.cj b u e n;by_cases z:b=p
  ·subst z;rcases w with w | w
   ·rw [e] at w;cases w
   ·exact absurd w n
  ·rw [af z];exact this
theorem vP (a b:Key):PyData.eqv (kD a) (kD b)=decide (a=b):=by
 cases a with
 | inl i=>cases b with
  | inl j=>by_cases z:i=j <;> simp [kD,PyData.eqv,z]
  | inr y=>simp [kD,PyData.eqv]
 | inr x=>cases b with
  | inl j=>simp [kD,PyData.eqv]
  | inr y=>by_cases z:x=y <;> simp [kD,PyData.eqv,z]
theorem vR {k:PyData}:∀ {ds:List (PyData×PyData)} {xs:List (PyData×V×V)},DmP K F H ds xs->(ds.any fun kv=>PyData.eqv kv.1 k)=xs.any fun x=>PyData.eqv x.1 k
 | [],xs,h=>by rw [show xs=[] from h];rfl
 | (k',d) :: ds,xs,h=>by
  obtain ⟨j,v,r,rfl,_,_,_,h2⟩:=h;rw [Jb,Jb,vR h2]
theorem qk {k d:PyData} {v:V} (hd:Dm K F H d v):∀ {ds:List (PyData×PyData)} {xs:List (PyData×V×V)},DmP K F H ds xs->DmP K F H (ds.map fun kv=>if PyData.eqv kv.1 k=true then (kv.1,d) else kv) (xs.map fun x=>if PyData.eqv x.1 k=true then (x.1,x.2.1,v) else x)
 | [],xs,h=>by rw [show xs=[] from h];rfl
 | (k',d') :: ds,xs,h=>by
  obtain ⟨j,w,r,rfl,e,h0,h1,h2⟩:=h;rw [List.map_cons,List.map_cons];by_cases z:PyData.eqv k' k=true
  ·rw [Ht z,Ht z];exact ⟨j,v,_,rfl,e,h0,hd,qk hd h2⟩
  ·rw [Hv z,Hv z];exact ⟨j,w,_,rfl,e,h0,h1,qk hd h2⟩
theorem vb {k d:PyData} {j v:V} (hk:hk6 k=true) (hj:Dm K F H k j) (hd:Dm K F H d v):∀ {ds:List (PyData×PyData)} {xs:List (PyData×V×V)},DmP K F H ds xs->DmP K F H (ds++[(k,d)]) (xs++[(k,j,v)])
 | [],xs,h=>by rw [show xs=[] from h];exact ⟨j,v,[],rfl,hk,hj,hd,rfl⟩
 | (k',d') :: ds,xs,h=>by
  obtain ⟨i,w,r,rfl,e,h0,h1,h2⟩:=h;exact ⟨i,w,_,rfl,e,h0,h1,vb hk hj hd h2⟩
theorem vD {k d:PyData} {j v:V} {ds:List (PyData×PyData)} {xs:List (PyData×V×V)} (h:DmP K F H ds xs) (hk:hk6 k=true) (hj:Dm K F H k j) (hd:Dm K F H d v):DmP K F H (putD ds k d) (nt xs k j v):=by
 unfold putD nt;rw [vR h];split
 ·exact qk hd h
 ·exact vb hk hj hd h
theorem AO {kvs:List (Key×V)} {k:Key} {v:V}:(putK kvs k v).map cvK=nt (kvs.map cvK) (kD k) (kV k) v:=by
 unfold putK nt;have e:((kvs.map cvK).any fun x=>PyData.eqv x.1 (kD k))=kvs.any fun kv=>decide (kv.1=k):=by
  rw [List.any_map];congr 1;funext kv;exact vP _ _
 rw [e];split
 ·rw [HX,HX];refine IM fun kv _=>?_;show cvK (if kv.1=k then (kv.1,v) else kv)=if PyData.eqv (kD kv.1) (kD k)=true then _ else _
  rw [vP];by_cases z:kv.1=k
  ·rw [Ht z,Ht (HD z)];rfl
  ·rw [Hv z,Hv (by simp [z])]
 ·rw [HH];rfl
theorem tY {kvs:List (Key×V)} {k:Key} {v:V}:(putK kvs k v).length<=kvs.length+1:=by
 unfold putK;split
 ·rw [Hb];exact Nat.le_succ _
 ·rw [Hq];exact Hl _
theorem AE (k:Key):hk6 (kD k)=true:=by cases k <;> rfl
theorem mW:∀ {kvs:List (Key×PyData)} {vs:List (Key×V)} {ds:List (PyData×PyData)} {xs:List (Key×V)},Bf K F H kvs vs->DmP K F H ds (xs.map cvK)->DmP K F H (kvs.foldl (fun acc kv=>putD acc (kD kv.1) kv.2) ds) ((cA xs vs).map cvK)/\(cA xs vs).length<=xs.length+vs.length
 | [],vs,ds,xs,h,q=>by rw [show vs=[] from h];exact ⟨q,Hl _⟩
 | (k,d) :: kvs,vs,ds,xs,h,q=>by
  obtain ⟨v,r,rfl,h0,h1,h2⟩:=h;have:=mW h2 (xs:=putK xs k v) (by rw [AO];exact vD q (AE k) h0 h1);refine ⟨this.1,HJ this.2 ?_⟩;have:=tY (kvs:=xs) (k:=k) (v:=v);rw [Hx];omega
theorem Bf.len:∀ {kvs:List (Key×PyData)} {vs:List (Key×V)},Bf K F H kvs vs->vs.length=kvs.length
 | [],vs,h=>by rw [show vs=[] from h];rfl
 | (k,d) :: kvs,vs,h=>by
  obtain ⟨v,r,rfl,h0,h1,h2⟩:=h;rw [Hx,Hx,h2.len]
theorem Cy:SPs K ga gd .nil:=by
 intro env kvs env' h F0 H₀ I σ H Q R q;simp only [dP] at h;cases h;exact q [] H R (KpE.refl _) rfl
theorem zU {k e:XE} {r:XP} (ik:SE K ga gd k) (ie:SE K ga gd e) (ir:SPs K ga gd r):SPs K ga gd (.cons k e r):=by
 intro env kvs env' h F0 H₀ I σ H Q R q;simp only [dP] at h;split at h
 ·rename_i rk e1 h1;split at h
  ·rename_i rv e2 h2;split at h
   ·rename_i kvs' e3 h3;split at h
    ·rename_i dk d hk hd;split at h
     ·rename_i key hkey;cases h;refine ik _ _ _ h1 F0 H₀ I σ H _ R fun v H1 R1 k1 r1=>?_;refine ie _ _ _ h2 F0 _ _ σ H1 _ R1.rebase fun u H2 S2 k2 r2=>?_;have R2:=R1.aP S2;refine ir _ _ _ h3 F0 _ _ σ H2 _ R2.rebase fun vs H3 S3 k3 r3=>?_;have a1:=r1.av;rw [hk] at a1;have a2:=r2.av;rw [hd] at a2;have ev:v=kV key:=by
       cases dk with
       | int i=>cases hkey;exact (show v=.int i from a1)
       | str x=>cases hkey;exact (show v=.str x/\_ from a1).1
       | _=>cases hkey
      have dd:Dm K (FF F0 env' σ) H3 d u:=R2.nV S3 k3 a2;have dk':Dm K (FF F0 env' σ) H3 (kD key) (kV key):=by
       cases dk with
       | int i=>cases hkey;rfl
       | str x=>cases hkey;exact ⟨rfl,(show v=.str x/\_ from a1).2⟩
       | _=>cases hkey
      rw [ev];exact q ((key,u) :: vs) H3 (R2.aP S3) ((k1.trans k2).trans k3) ⟨u,vs,rfl,dk',dd,r3⟩
     ·cases h
    ·cases h
   ·cases h
  ·cases h
 ·cases h
theorem EW {as:XP} (ih:SPs K ga gd as):SE K ga gd (.dsp as):=by
 intro env rv env' h F0 H₀ I σ H Q R q;simp only [dE] at h;split at h
 ·rename_i kvs e1 h1;split at h
  ·rename_i hl;cases h;intro p hp;have s:=ax.nw (.dD 0 []) hp;have r0:c7 K F0 H₀ I env σ (upd H p (.dD 0 [])) (.frs (.dict [])) (.ref p):=R.jZ (pr:=.frs (.dict [])) s ⟨p,rfl,hp,0,[],ah,by decide,rfl⟩;have R0:=r0;obtain ⟨a,ea,R0,_,_,nF,hi,_⟩:=R0;cases ea;have cIA:¬IA env σ p:=fun z=>by
    obtain ⟨i,⟨c,e | e⟩,s⟩:=z
    ·exact nF (.inr ⟨i,c,e,s⟩)
    ·exact hi i c e s
   refine ih _ _ _ h1 _ _ _ σ _ _ R0.rebase fun vs H2 S2 k2 ps=>?_;have r2:=r0.carry S2 k2;rw [et] at ps;have hm:=mW ps (xs:=[]) (show DmP K (fun b=>FF F0 env' σ b\/b=p) H2 [] [] from rfl);have hlen:(cA [] vs).length<=15:=by
    have:=hm.2;rw [ps.len] at this;simp only [List.length_nil] at this;omega
   refine ⟨S2.cj p _ ah cIA,vs,rfl,by rw [ps.len];exact hl,fun ep=>?_⟩;have r3:c7 K F0 H₀ I env' σ (upd H2 p (.dD ep ((cA [] vs).map cvK))) (.frs (.dict (kvs.foldl (fun acc kv=>putD acc (kD kv.1) kv.2) []))) (.ref p):=by
    refine r2.put ⟨ep,(cA [] vs).map cvK,ah,by rw [Hb];exact HJ hlen (by decide),hm.1.pr ?_ fun _ z=>z⟩;intro b u e n;by_cases z:b=p
    ·subst z;rcases n with n | n
     ·exact absurd (.inr rfl) n
     ·have:=S2.cj b _ ah cIA;rw [e] at this;cases this;cases n
    ·rw [af z];exact e
   exact q _ _ r3.rel k2 r3
  ·cases h
 ·cases h
end
open PySem
section
variable {K:Fg} {F F' I I' F0:Addr->Prop} {H H' H₀:Hp} {env env':En} {σ σ':St} {ga:Nat->V} {gd:List PyData}
theorem kM {α:Type}:∀ {l:List α} {i j:Nat} {x:α},l.Nodup->l[i]?=some x->l[j]?=some x->i=j
 | [],_,_,_,_,h,_=>by simp at h
 | y :: l,0,0,_,_,_,_=>rfl
 | y :: l,0,j+1,x,nd,h1,h2=>by
  simp at h1 h2;subst h1;exact absurd (HB h2) (HZ.mp nd).1
 | y :: l,i+1,0,x,nd,h1,h2=>by
  simp at h1 h2;subst h2;exact absurd (HB h1) (HZ.mp nd).1
 | y :: l,i+1,j+1,x,nd,h1,h2=>by
  simp at h1 h2;rw [kM (HZ.mp nd).2 h1 h2]
def noOwn (env:En):Prop:=∀ (i:Nat) (d:PyData),env[i]?≠some (.own d)
theorem bV (h:noOwn env):FF F0 env σ=F0:=by
 funext b;apply propext;constructor
 ·rintro (q | ⟨i,d,e,_⟩)
  ·exact q
  ·exact absurd e (h i d)
 ·exact .inl
theorem noOwn.kp (h:noOwn env) (k:KpE env env'):noOwn env':=fun i d e=>by
 obtain ⟨d',e'⟩:=k.own e;exact h i d' e'
def oX:Sl->Prop | .dat _=>True | .un=>True | _=>False
theorem fS {pre:En} {ps:St} (hp:∀ s∈pre,oX s) (hl:pre.length=ps.length):FF F0 (pre++env) (ps++σ)=FF F0 env σ:=by
 funext b;apply propext;constructor
 ·rintro (q | ⟨i,d,e,s⟩)
  ·exact .inl q
  ·by_cases hi:i < pre.length
   ·rw [H0 hi] at e;have:=hp _ (HB e);exact absurd this id
   ·rw [HA (by omega)] at e;rw [HA (by omega),<-hl] at s;exact .inr ⟨_,d,e,s⟩
 ·rintro (q | ⟨i,d,e,s⟩)
  ·exact .inl q
  ·refine .inr ⟨pre.length+i,d,?_,?_⟩
   ·rw [HA (by omega)];simpa using e
   ·rw [HA (by omega),hl];simpa using s
theorem jE {pre:En} (hp:∀ s∈pre,oX s) {i:Nat} (h:mu (pre++env) i):pre.length<=i/\mu env (i - pre.length):=by
 obtain ⟨d,h⟩:=h;by_cases hi:i < pre.length
 ·rw [H0 hi] at h;rcases h with h | h <;> exact absurd (hp _ (HB h)) id
 ·rw [HA (by omega)] at h;exact ⟨by omega,d,h⟩
theorem mS {pre:En} {ps:St} (hp:∀ s∈pre,oX s) (hl:pre.length=ps.length):IA (pre++env) (ps++σ)=IA env σ:=by
 funext b;apply propext;constructor
 ·rintro ⟨i,m,s⟩;obtain ⟨hi,m'⟩:=jE hp m;rw [HA (by omega),<-hl] at s;exact ⟨_,m',s⟩
 ·rintro ⟨i,⟨d,m⟩,s⟩;refine ⟨pre.length+i,⟨d,?_⟩,?_⟩
  ·rw [HA (by omega)];simpa using m
  ·rw [HA (by omega),hl];simpa using s
theorem Rel.front (R:Rel K F0 H₀ I env σ H) {ds:List PyData} {vs:List V} (h:DmL K (FF F0 env σ) H ds vs):Rel K F0 H₀ I (ds.map .dat++env) (vs.map some++σ) H:=by
 have hp:∀ s∈(ds.map Sl.dat),oX s:=fun s hs=>by obtain ⟨d,_,rfl⟩:=Hk.mp hs;trivial
 have hl:(ds.map Sl.dat).length=(vs.map some).length:=by rw [Hb,Hb,h.len]
 have hl2:(ds.map Sl.dat).length=ds.length:=Hb _;have eF:=fS (F0:=F0) (env:=env) (σ:=σ) hp hl;have eI:=mS (env:=env) (σ:=σ) hp hl;have back:∀ {i:Nat} {s:Sl},(ds.map Sl.dat++env)[i]?=some s->(∀ d,s≠.dat d)->(ds.map Sl.dat).length<=i/\env[i - (ds.map Sl.dat).length]?=some s:=fun {i s} e n=>by
  by_cases hi:i < (ds.map Sl.dat).length
  ·rw [H0 hi] at e;obtain ⟨d,_,z⟩:=Hk.mp (HB e);exact absurd z.symm (n d)
  ·rw [HA (by omega)] at e;exact ⟨by omega,e⟩
 have fs:∀ {i:Nat} {x:Option V},(ds.map Sl.dat).length<=i->σ[i - (ds.map Sl.dat).length]?=some x->(vs.map some++σ)[i]?=some x:=fun {i x} hi e=>by
  rw [HA (by omega),<-hl];exact e
 refine ⟨by rw [Hq,Hq,hl,R.len],fun i d e=>?_,fun i d e=>?_,fun i d e=>?_,fun i d e=>?_,fun i j a h1 h2 h3 h4=>?_,R.dom,R.cj⟩
 ·rw [eF];by_cases hi:i < (ds.map Sl.dat).length
  ·rw [H0 hi,Hi] at e;cases e2:ds[i]? with
   | none=>rw [e2] at e;cases e
   | some d' =>
    rw [e2] at e;cases e;obtain ⟨v,q,r⟩:=h.get e2;refine ⟨v,?_,r⟩;rw [H0 (by omega),Hi,q];rfl
  ·rw [HA (by omega)] at e;obtain ⟨v,s,r⟩:=R.dat _ d e;exact ⟨v,fs (by omega) s,r⟩
 ·rw [eF];obtain ⟨hi,e⟩:=back e (fun _=>nofun);obtain ⟨a,s,q⟩:=R.own _ d e;exact ⟨a,fs hi s,q⟩
 ·rw [eF];obtain ⟨hi,e⟩:=back e (fun _=>nofun);obtain ⟨a,s,q⟩:=R.ino _ d e;exact ⟨a,fs hi s,q⟩
 ·rw [eF,eI];obtain ⟨hi,e⟩:=back e (fun _=>nofun);obtain ⟨a,s,q⟩:=R.ro _ d e;exact ⟨a,fs hi s,q⟩
 ·obtain ⟨i1,m1⟩:=jE hp h1;obtain ⟨i2,m2⟩:=jE hp h2;rw [HA (by omega),<-hl] at h3 h4;have:=R.sep _ _ a m1 m2 h3 h4;omega
theorem Rel.behind {pre:En} {ps:St} (R:Rel K F0 H₀ I (pre++env) (ps++σ) H) (hp:∀ s∈pre,oX s) (hl:pre.length=ps.length):Rel K F0 H₀ I env σ H:=by
 have eF:=fS (F0:=F0) (env:=env) (σ:=σ) hp hl;have eI:=mS (env:=env) (σ:=σ) hp hl;have up:∀ {i:Nat} {s:Sl},env[i]?=some s->(pre++env)[pre.length+i]?=some s:=fun {i s} e=>by
  rw [HA (by omega)];simpa using e
 have dn:∀ {i:Nat} {x:Option V},(ps++σ)[pre.length+i]?=some x->σ[i]?=some x:=fun {i x} e=>by
  rw [HA (by omega),hl] at e;simpa using e
 have us:∀ {i:Nat} {x:Option V},σ[i]?=some x->(ps++σ)[pre.length+i]?=some x:=fun {i x} e=>by
  rw [HA (by omega),hl];simpa using e
 refine ⟨by have:=R.len;rw [Hq,Hq,hl] at this;omega,fun i d e=>?_,fun i d e=>?_,fun i d e=>?_,fun i d e=>?_,fun i j a h1 h2 h3 h4=>?_,R.dom,R.cj⟩
 ·obtain ⟨v,s,r⟩:=R.dat _ d (up e);rw [eF] at r;exact ⟨v,dn s,r⟩
 ·obtain ⟨v,s,r⟩:=R.own _ d (up e);rw [eF] at r;exact ⟨v,dn s,r⟩
 ·obtain ⟨v,s,r⟩:=R.ino _ d (up e);rw [eF] at r;exact ⟨v,dn s,r⟩
 ·obtain ⟨v,s,r⟩:=R.ro _ d (up e);rw [eF,eI] at r;exact ⟨v,dn s,r⟩
 ·obtain ⟨d1,m1⟩:=h1;obtain ⟨d2,m2⟩:=h2;have:=R.sep (pre.length+i) (pre.length+j) a ⟨d1,m1.imp up up⟩ ⟨d2,m2.imp up up⟩ (us h3) (us h4);omega
theorem KpE.front {ds:List PyData} {e':En} (k:KpE (ds.map .dat++env) e'):∃ env',e'=ds.map .dat++env'/\KpE env env':=by
 have hlen:=k.1;rw [Hq,Hb] at hlen;refine ⟨e'.drop ds.length,?_,?_,fun i s e=>?_⟩
 ·apply List.ext_getElem?;intro i;by_cases hi:i < ds.length
  ·have hm:(ds.map Sl.dat++env)[i]?=some (.dat ds[i]):=by
    rw [H0 (by rw [Hb];exact hi),Hi,Hc hi];rfl
   obtain ⟨s',h',ev⟩:=k.2 i _ hm;have ev:s'=.dat ds[i]:=ev;rw [h',ev,H0 (by rw [Hb];exact hi),Hi,Hc hi];rfl
  ·rw [HA (by rw [Hb];omega),List.getElem?_drop,Hb];congr 1;omega
 ·rw [Jw];omega
 ·obtain ⟨s',h',ev⟩:=k.2 (ds.length+i) s (by rw [HA (by rw [Hb];omega),Hb];simpa using e);exact ⟨s',by rw [List.getElem?_drop];exact h',ev⟩
theorem d4 {lock:Option Nat} {js:List Nat} {k:Nat} {s:Sl} (h:(cq env lock js)[k]?=some s):∃ j,js[k]?=some j/\s=lS (decide (lock=some j)) (env[j]?.getD .un):=by
 unfold cq at h;rw [Hi] at h;cases e:js[k]? with
 | none=>rw [e] at h;cases h
 | some j=>rw [e] at h;cases h;exact ⟨j,rfl,rfl⟩
theorem nq {js:List Nat} {k j:Nat} (h:js[k]?=some j):(aT js σ)[k]?=some ((σ[j]?).getD none):=by
 unfold aT;rw [Hi,h];rfl
theorem bP {lock:Option Nat} {js:List Nat}:noOwn (cq env lock js):=fun k d e=>by
 obtain ⟨j,_,e'⟩:=d4 e;cases h:env[j]?.getD .un with
 | un=>rw [h] at e';cases e'
 | dat _=>rw [h] at e';cases e'
 | own c=>rw [h] at e';unfold lS at e';simp only at e';split at e' <;> cases e'
 | ino c=>rw [h] at e';unfold lS at e';simp only at e';split at e' <;> cases e'
 | ro _=>rw [h] at e';cases e'
theorem getD_some {j:Nat} {s:Sl} (h:env[j]?.getD .un=s) (n:s≠.un):env[j]?=some s:=by
 cases e:env[j]? with
 | none=>rw [e] at h;exact absurd h.symm n
 | some t=>rw [e] at h;cases h;rfl
theorem nN {lock:Option Nat} {js:List Nat} {k:Nat} {d:PyData} (h:(cq env lock js)[k]?=some (.ino d)):∃ j,js[k]?=some j/\lock≠some j/\(env[j]?=some (.own d)\/env[j]?=some (.ino d)):=by
 obtain ⟨j,hj,e'⟩:=d4 h;refine ⟨j,hj,?_⟩;cases h:env[j]?.getD .un with
 | un=>rw [h] at e';cases e'
 | dat _=>rw [h] at e';cases e'
 | own c =>
  rw [h] at e';unfold lS at e';simp only at e';split at e'
  ·cases e'
  ·rename_i n;cases e';exact ⟨by simpa using n,.inl (getD_some h nofun)⟩
 | ino c =>
  rw [h] at e';unfold lS at e';simp only at e';split at e'
  ·cases e'
  ·rename_i n;cases e';exact ⟨by simpa using n,.inr (getD_some h nofun)⟩
 | ro _=>rw [h] at e';cases e'
theorem cL {lock:Option Nat} {js:List Nat} {k:Nat} (h:mu (cq env lock js) k):∃ j,js[k]?=some j/\lock≠some j/\mu env j:=by
 obtain ⟨d,h | h⟩:=h
 ·exact absurd h (bP k d)
 ·obtain ⟨j,h1,h2,h3⟩:=nN h;exact ⟨j,h1,h2,d,h3⟩
theorem aX {js:List Nat} {k j:Nat} {a:Addr} (h:js[k]?=some j) (e:(aT js σ)[k]?=some (some (.ref a))):σ[j]?=some (some (.ref a)):=by
 rw [nq h] at e;cases q:σ[j]? with
 | none=>rw [q] at e;cases e
 | some x=>rw [q] at e;cases e;rfl
theorem bK {js:List Nat} {k j:Nat} {v:V} (h:js[k]?=some j) (e:σ[j]?=some (some v)):(aT js σ)[k]?=some (some v):=by rw [nq h,e];rfl
theorem Rel.aT (R:Rel K F0 H₀ I env σ H) {lock:Option Nat} {js:List Nat} (nd:js.Nodup):Rel K (FF F0 env σ) H (IA (cq env lock js) (L2.aT js σ)) (cq env lock js) (L2.aT js σ) H:=by
 have eF:FF (FF F0 env σ) (cq env lock js) (L2.aT js σ)=FF F0 env σ:=bV bP;have sub:∀ b,IA (cq env lock js) (L2.aT js σ) b->IA env σ b:=fun b ⟨k,m,s⟩=>by
  obtain ⟨j,hj,_,mj⟩:=cL m;exact ⟨j,mj,aX hj s⟩
 refine ⟨by unfold cq L2.aT;rw [Hb,Hb],fun k d e=>?_,fun k d e=>absurd e (bP k d),fun k d e=>?_,fun k d e=>?_,fun k l a h1 h2 h3 h4=>?_,fun b h=>R.dh h,fun _ _ h _=>h⟩
 ·rw [eF];obtain ⟨j,hj,e'⟩:=d4 e;have ej:env[j]?=some (.dat d):=by
   cases h:env[j]?.getD .un with
   | un=>rw [h] at e';cases e'
   | dat c=>rw [h] at e';cases e';exact getD_some h nofun
   | own c=>rw [h] at e';unfold lS at e';simp only at e';split at e' <;> cases e'
   | ino c=>rw [h] at e';unfold lS at e';simp only at e';split at e' <;> cases e'
   | ro _=>rw [h] at e';cases e'
  obtain ⟨v,s,r⟩:=R.dat j d ej;exact ⟨v,bK hj s,r⟩
 ·rw [eF];obtain ⟨j,hj,_,ej⟩:=nN e;have:∃ a,σ[j]?=some (some (.ref a))/\FF F0 env σ a/\Top K (FF F0 env σ) H d a:=by
   rcases ej with ej | ej
   ·obtain ⟨a,s,_,_,t⟩:=R.own j d ej;exact ⟨a,s,.inr ⟨j,d,ej,s⟩,t⟩
   ·obtain ⟨a,s,f,_,t⟩:=R.ino j d ej;exact ⟨a,s,.inl f,t⟩
  obtain ⟨a,s,f,t⟩:=this;exact ⟨a,bK hj s,f,⟨k,⟨d,.inr e⟩,bK hj s⟩,t⟩
 ·rw [eF];obtain ⟨j,hj,e'⟩:=d4 e;have lk:∀ a,lock=some j->mu env j->σ[j]?=some (some (.ref a))->¬IA (cq env lock js) (L2.aT js σ) a:=fun a hl m s ⟨k',m',s'⟩=>by
   obtain ⟨j',hj',hn,mj'⟩:=cL m';have:=R.sep j' j a mj' m (aX hj' s') s;subst this;exact hn hl
  cases h:env[j]?.getD .un with
  | un=>rw [h] at e';cases e'
  | dat c=>rw [h] at e';cases e'
  | own c =>
   rw [h] at e';unfold lS at e';simp only at e';split at e'
   ·rename_i n;cases e';have ej:=getD_some h nofun;obtain ⟨a,s,_,_,t⟩:=R.own j d ej;exact ⟨a,bK hj s,t.ro (lk a (by simpa using n) ⟨d,.inl ej⟩ s)⟩
   ·cases e'
  | ino c =>
   rw [h] at e';unfold lS at e';simp only at e';split at e'
   ·rename_i n;cases e';have ej:=getD_some h nofun;obtain ⟨a,s,_,_,t⟩:=R.ino j d ej;exact ⟨a,bK hj s,t.ro (lk a (by simpa using n) ⟨d,.inr ej⟩ s)⟩
   ·cases e'
  | ro c =>
   rw [h] at e';cases e';obtain ⟨a,s,t⟩:=R.ro j d (getD_some h nofun);exact ⟨a,bK hj s,t.pr Pr.refl (fun _ z=>z) sub fun _ _ z _=>z⟩
 ·obtain ⟨j1,e1,_,m1⟩:=cL h1;obtain ⟨j2,e2,_,m2⟩:=cL h2;have:=R.sep j1 j2 a m1 m2 (aX e1 h3) (aX e2 h4);subst this;exact kM nd e1 e2
theorem aI:∀ (env:En) (js:List Nat) (es:En),SmK env (ay env js es)
 | env,[],es=>by unfold ay;exact SmK.refl _
 | env,j :: js,[]=>by unfold ay;exact SmK.refl _
 | env,j :: js,s :: es=>by
  cases s with
  | ino d=>unfold ay;exact (cV env j d).trans (aI _ js es)
  | un=>unfold ay;exact aI _ js es
  | dat _=>unfold ay;exact aI _ js es
  | own _=>unfold ay;exact aI _ js es
  | ro _=>unfold ay;exact aI _ js es
theorem aJ:∀ (env:En) (js:List Nat) (es:En) (i:Nat),i ∉ js->(ay env js es)[i]?=env[i]?
 | env,[],es,i,_=>by unfold ay;rfl
 | env,j :: js,[],i,_=>by unfold ay;rfl
 | env,j :: js,s :: es,i,h=>by
  have n:i≠j:=fun z=>h (by rw [z];exact Hu);have n':i ∉ js:=fun z=>h (Hm _ z);cases s with
  | ino d=>unfold ay;rw [aJ _ js es i n',jR n]
  | un=>unfold ay;exact aJ _ js es i n'
  | dat _=>unfold ay;exact aJ _ js es i n'
  | own _=>unfold ay;exact aJ _ js es i n'
  | ro _=>unfold ay;exact aJ _ js es i n'
theorem cW:∀ (env:En) (js:List Nat) (es:En) (k i:Nat) (s:Sl),js.Nodup->js[k]?=some i->es[k]?=some s->(∀ d,s=.ino d->mu env i->aC (ay env js es) i=some d)/\((∀ d,s≠.ino d)->(ay env js es)[i]?=env[i]?)
 | env,[],es,k,i,s,_,h,_=>by simp at h
 | env,j :: js,[],k,i,s,_,_,h=>by simp at h
 | env,j :: js,t :: es,0,i,s,nd,h,h'=>by
  obtain ⟨n1,nd'⟩:=HZ.mp nd;simp at h h';subst h h';constructor
  ·rintro d rfl m;unfold ay;have:=aJ (fA env j d) js es j n1;unfold aC;rw [this];exact jT m
  ·intro hn;cases t with
   | ino d=>exact absurd rfl (hn d)
   | un=>unfold ay;exact aJ _ js es j n1
   | dat _=>unfold ay;exact aJ _ js es j n1
   | own _=>unfold ay;exact aJ _ js es j n1
   | ro _=>unfold ay;exact aJ _ js es j n1
 | env,j :: js,t :: es,k+1,i,s,nd,h,h'=>by
  obtain ⟨n1,nd'⟩:=HZ.mp nd;simp at h h';have hi:i∈js:=HB h;have ne:i≠j:=fun z=>n1 (z▸hi);cases t with
  | ino d =>
   unfold ay;have ih:=cW (fA env j d) js es k i s nd' h h';refine ⟨fun d' e m=>ih.1 d' e ((cV env j d).symm.kp.mu m),fun hn=>?_⟩;rw [ih.2 hn,jR ne]
  | un=>unfold ay;exact cW env js es k i s nd' h h'
  | dat _=>unfold ay;exact cW env js es k i s nd' h h'
  | own _=>unfold ay;exact cW env js es k i s nd' h h'
  | ro _=>unfold ay;exact cW env js es k i s nd' h h'
theorem KpE.EY (k:KpE env env') {i:Nat} {d:PyData} (e:env[i]?=some (.ino d)):∃ d',env'[i]?=some (.ino d'):=by
 obtain ⟨s',h,ev⟩:=k.2 i _ e;obtain ⟨d',rfl⟩:=ev;exact ⟨d',h⟩
theorem Rel.back (R:Rel K F0 H₀ I env σ H) {lock:Option Nat} {js:List Nat} {ec:En} (nd:js.Nodup) (S:Rel K (FF F0 env σ) H (IA (cq env lock js) (L2.aT js σ)) ec (L2.aT js σ) H') (k:KpE (cq env lock js) ec):Rel K F0 H₀ I (ay env js ec) σ H':=by
 have sub:∀ b,IA (cq env lock js) (L2.aT js σ) b->IA env σ b:=fun b ⟨k,m,s⟩=>by
  obtain ⟨j,hj,_,mj⟩:=cL m;exact ⟨j,mj,aX hj s⟩
 have hk:∀ b o,H b=some o->¬IA env σ b->H' b=some o:=fun b o e n=>S.cj b o e fun z=>n (sub b z);have eFc:FF (FF F0 env σ) ec (L2.aT js σ)=FF F0 env σ:=bV (bP.kp k);refine R.chg (aI env js ec) hk fun i d a hm hs=>?_;have sm:=aI env js ec;have mi:mu env i:=sm.kp.mu ((nG hm).elim (fun e=>⟨d,.inl e⟩) fun e=>⟨d,.inr e⟩);have kO:(ay env js ec)[i]?=env[i]?->¬IA (cq env lock js) (L2.aT js σ) a->Top K (FF F0 env σ) H' d a:=fun e n=>by
  have hm':aC env i=some d:=by unfold aC at hm ⊢;rwa [e] at hm
  obtain ⟨_,a',s',_,t⟩:=R.cb hm';rw [hs] at s';cases s';exact t.pr (R.m4 hk) (fun _ z=>z) fun o e=>S.cj a o e n
 by_cases hi:i∈js
 ·obtain ⟨p,hp⟩:=Ij.mp hi;have hlen:ec.length=js.length:=by rw [k.1];unfold cq;rw [Hb]
  have hpl:p < js.length:=(Hd.mp hp).1;have he:ec[p]?=some (ec[p]'(by omega)):=Hc _;obtain ⟨b1,b2⟩:=cW env js ec p i _ nd hp he;by_cases hl:lock=some i
  ·-- locked
   refine kO (b2 fun d' z=>?_) ?_
   ·rw [z] at he;obtain ⟨s,e0,ev⟩:=k.back he;obtain ⟨j,hj,e'⟩:=d4 e0;rw [hp] at hj;cases hj;obtain ⟨c,hc | hc⟩:=mi
    ·rw [hc] at e';simp only [Option.getD_some,lS,hl,decide_true,Jg] at e';subst e';cases ev
    ·rw [hc] at e';simp only [Option.getD_some,lS,hl,decide_true,Jg] at e';subst e';cases ev
   ·rintro ⟨q,mq,sq⟩;obtain ⟨j',hj',hn,mj'⟩:=cL mq;have:=R.sep j' i a mj' mi (aX hj' sq) hs;subst this;exact hn hl
  ·have:∃ c,(cq env lock js)[p]?=some (.ino c):=by
    unfold cq;rw [Hi,hp];obtain ⟨c,hc | hc⟩:=mi
    ·exact ⟨c,by rw [JH,hc];simp [lS,hl]⟩
    ·exact ⟨c,by rw [JH,hc];simp [lS,hl]⟩
   obtain ⟨c,hc⟩:=this;obtain ⟨d',hd'⟩:=k.EY hc;rw [he] at hd';have ed:=b1 d' (HU hd') mi;rw [hm] at ed;cases ed;obtain ⟨a',s',_,_,t⟩:=S.ino p d (by rw [he];exact hd');have:=aX hp s';rw [hs] at this;cases this
   rwa [eFc] at t
 ·refine kO (aJ env js ec i hi) ?_;rintro ⟨q,mq,sq⟩;obtain ⟨j',hj',hn,mj'⟩:=cL mq;have:=R.sep j' i a mj' mi (aX hj' sq) hs;subst this;exact hi (HB hj')
end
open PySem
section
variable {K:Fg} {F F' I I' F0:Addr->Prop} {H H' H₀ H1:Hp} {env env' e1:En} {σ σ':St} {ga:Nat->V} {gd:List PyData}
def CO (K:Fg) (F:Addr->Prop) (H:Hp) (acc:List V):Option PyData->List V->Prop
 | none,acc'=>acc'=acc
 | some d,acc'=>∃ v,acc'=acc++[v]/\Dm K F H d v
theorem qf {step:PyData->En->Option (Option PyData×En)} {ds ys:List PyData} {ec:En} {lock:Option Nat} {js:List Nat} {J:It} {Q:VK} {τ:Type} {TI:τ->Prop} {t0:τ} {body:τ->List V->V->Hp->(τ->List V->Hp->Prop)->Prop} (ht0:TI t0)
  (R1:Rel K F0 H₀ I e1 σ H1) (nd:js.Nodup) (hit:sQ K (FF F0 e1 σ) (fun b=>IA e1 σ b/\∀ i,lock=some i->mu e1 i->σ[i]?≠some (some (.ref b))) H1 J ds) (h2:sR step ds (cq e1 lock js)=some (ys,ec))
  (turn:∀ t acc d envc y envc' x H',TI t->step d envc=some (y,envc')->Rel K (FF F0 e1 σ) H1 (IA (cq e1 lock js) (aT js σ)) envc (aT js σ) H'->noOwn envc->Dm K (FF F0 e1 σ) H' d x->∀ N:τ->List V->Hp->Prop,
   (∀ t' acc' H2,TI t'->Rel K (FF F0 e1 σ) H1 (IA (cq e1 lock js) (aT js σ)) envc' (aT js σ) H2->KpE envc envc'->Pr (FF F0 e1 σ) H' H2->CO K (FF F0 e1 σ) H2 acc y acc'->N t' acc' H2)->body t acc x H' N)
  (fin:∀ acc H',Rel K F0 H₀ I (ay e1 js ec) σ H'->DmL K (FF F0 e1 σ) H' ys acc->acc.length<=sizeLine->∀ p,H' p=none->Q (.ref p) (upd H' p (.lst acc))) :
  ∃ W:Nat->Nat->τ->List V->Hp->Prop,(∃ m,W 0 m t0 [] H1)/\∀ i m t acc H,W i m t acc H ->
   (J.stop i H/\acc.length<=sizeLine/\∀ p,H p=none->Q (.ref p) (upd H p (.lst acc)))\/(J.go i H/\acc.length < sizeLine/\∀ x H',J.yld i H x H'->body t acc x H' fun t' acc' H2=>∃ m',m' < m/\W (i+1) m' t' acc' H2):=by
 obtain ⟨hvl,hturn⟩:=hit;have sub:∀ b,IA (cq e1 lock js) (aT js σ) b->IA e1 σ b/\∀ i,lock=some i->mu e1 i->σ[i]?≠some (some (.ref b)):=fun b ⟨k,m,s⟩=>by
  obtain ⟨j,hj,hn,mj⟩:=cL m;refine ⟨⟨j,mj,aX hj s⟩,fun i hl mi si=>?_⟩;have:=R1.sep j i b mj mi (aX hj s) si;subst this;exact hn hl
 have Rc0:=R1.aT (lock:=lock) nd
 refine ⟨fun i m t acc H'=>TI t/\m=ds.length - i/\i<=ds.length/\acc.length<=i/\∃ envc done rest,sR step (ds.drop i) envc=some (rest,ec)/\ys=done++rest/\Rel K (FF F0 e1 σ) H1 (IA (cq e1 lock js) (aT js σ)) envc (aT js σ) H'/\KpE (cq e1 lock js) envc/\DmL K (FF F0 e1 σ) H' done acc,
  ⟨ds.length,ht0,rfl,Ia _,Hl _,cq e1 lock js,[],ys,h2,rfl,Rc0,KpE.refl _,rfl⟩,?_⟩
 rintro i m t acc H' ⟨hti,rfl,hi,hal,envc,done,rest,hc,hy,Rc,kc,hacc⟩;have hkept:∀ b o,H1 b=some o->¬(IA e1 σ b/\∀ i,lock=some i->mu e1 i->σ[i]?≠some (some (.ref b)))->H' b=some o:=fun b o e n=>Rc.cj b o e fun z=>n (sub b z);by_cases hlt:i < ds.length
 ·right;obtain ⟨go,yld⟩:=(hturn H' hkept i).1 (by omega);refine ⟨go,by omega,fun x H'' hx=>?_⟩;obtain ⟨d,hd,hy9⟩:=yld x H'' hx;obtain ⟨sm,hdx'⟩:=hy9.dm (F2:=FF F0 e1 σ) fun d v h=>h.pr (R1.m4 fun b o e n=>hkept b o e fun z=>n z.1) fun _ z=>z;have Rc:=Rc.same sm;have hacc:=hacc.pr (fun b o e _=>sm b o e) fun _ z=>z;have ed:ds.drop i=d :: ds.drop (i+1):=by
   rw [Jo hlt];obtain ⟨_,q⟩:=Hd.mp hd;rw [q]
  rw [ed] at hc;unfold sR at hc;split at hc
  ·rename_i y envc' hs;split at hc
   ·rename_i ys' e2 hr;cases hc;refine turn t acc d envc y envc' x H'' hti hs Rc (bP.kp kc) hdx' _ fun t' acc' H2 ht' R2 k2 p2 ha=>⟨_,by omega,ht',rfl,by omega,?_,envc',done++y.toList,ys',hr,by rw [hy,List.append_assoc],R2,kc.trans k2,?_⟩
    ·cases y with
     | none=>rw [show acc'=acc from ha];omega
     | some dy=>obtain ⟨v,rfl,_⟩:=ha;rw [Hq];simp;omega
    ·have hacc':=hacc.pr p2 fun _ z=>z;cases y with
     | none=>rw [show acc'=acc from ha];simpa using hacc'
     | some dy=>obtain ⟨v,rfl,hv⟩:=ha;exact hacc'.snoc hv
   ·cases hc
  ·cases hc
 ·left;have e:i=ds.length:=by omega
  subst e;have hz:acc.length<=sizeLine:=by omega
  rw [List.drop_length] at hc;unfold sR at hc;cases hc;rw [JK] at hy;subst hy;exact ⟨(hturn H' hkept _).2 (by omega),hz,fin acc H' (R1.back nd Rc kc) hacc hz⟩
theorem Dt {js:List Nat} {it:XI} {c:XT} {e:XE} (ii:SI K ga gd it) (ic:ST K ga gd c) (ie:SE K ga gd e):SE K ga gd (.cmp js it c e):=by
 intro env rv env' h F0 H₀ I σ H Q R q;simp only [dE] at h;split at h
 ·rename_i ds lock e1 h1;split at h
  ·rename_i nd;split at h
   ·rename_i ys ec h2;cases h;refine ii _ _ _ _ h1 F0 H₀ I σ H _ R fun J H1 R1 k1 _ hit=>?_;refine Exists.elim (qf (Q:=Q) (τ:=Unit) (TI:=fun _=>True) (t0:=()) (body:=fun _ acc x H' N=>rT K ga c (some x :: aT js σ) H' fun b H2=>if b=true then rE K ga e (some x :: aT js σ) H2 fun y H3=>N () (acc++[y]) H3 else N () acc H2) trivial R1 nd hit h2 ?_ ?_) fun W hw=>?_
    rotate_right 1
    ·obtain ⟨w0,hW⟩:=hw;exact ⟨fun i m acc H=>W i m () acc H,w0,fun i m acc H w=>hW i m () acc H w⟩
    ·intro _ acc d envc y envc' x H' _ hs Rc no hd N hN;have eF:FF (FF F0 e1 σ) envc (aT js σ)=FF F0 e1 σ:=bV no;have Rx:Rel K (FF F0 e1 σ) H1 (IA (cq e1 lock js) (aT js σ)) (.dat d :: envc) (some x :: aT js σ) H':=Rc.front (ds:=[d]) (vs:=[x]) ⟨x,[],rfl,by rw [eF];exact hd,rfl⟩;have frontF:∀ {e2:En},KpE envc e2->FF (FF F0 e1 σ) (.dat d :: e2) (some x :: aT js σ)=FF F0 e1 σ:=fun {e2} k=>by
      have:=fS (F0:=FF F0 e1 σ) (env:=e2) (σ:=aT js σ) (pre:=[.dat d]) (ps:=[some x]) (fun s hs=>by rw [Hj.mp hs];trivial) rfl;exact this.trans (bV (no.kp k))
     unfold cI at hs;split at hs
     ·rename_i e2 hT;split at hs
      ·rename_i rv e3 hE;split at hs
       ·rename_i dy hv;cases hs;refine ic _ _ _ hT _ _ _ _ H' _ Rx.rebase fun H2 S2 k2=>?_;rw [Ht rfl];have R2:=Rx.aP S2;refine ie _ _ _ hE _ _ _ _ H2 _ R2.rebase fun v H3 S3 k3 r3=>?_;have R3:=R2.aP S3;obtain ⟨ex,e3',kx⟩:=(k2.trans k3).front (ds:=[d]);have k23:=k2.trans k3;subst e3';have ht:(([d].map Sl.dat)++ex).tail=ex:=rfl;obtain ⟨e2x,e2',k2x⟩:=k2.front (ds:=[d]);have p12:Pr (FF F0 e1 σ) H' H2:=by have:=Rx.m4 S2.cj;rwa [frontF (KpE.refl _)] at this
        have p23:Pr (FF F0 e1 σ) H2 H3:=by
         have:=R2.m4 S3.cj;rw [e2'] at this
         rwa [show FF (FF F0 e1 σ) ([d].map Sl.dat++e2x) (some x :: aT js σ)=FF F0 e1 σ from frontF k2x] at this
        have a3:=r3.av;rw [hv] at a3;have dv:Dm K (FF F0 e1 σ) H3 dy v:=by
         have:Dm K (FF (FF F0 e1 σ) ([d].map Sl.dat++ex) (some x :: aT js σ)) H3 dy v:=a3
         rwa [show FF (FF F0 e1 σ) ([d].map Sl.dat++ex) (some x :: aT js σ)=FF F0 e1 σ from frontF kx] at this
        exact hN () _ H3 trivial (R3.behind (pre:=[.dat d]) (ps:=[some x]) (fun s hs=>by rw [Hj.mp hs];trivial) rfl) kx (p12.trans p23 fun _ z=>z) ⟨v,rfl,dv⟩
       ·cases hs
      ·cases hs
     ·rename_i e2 hT;cases hs;refine ic _ _ _ hT _ _ _ _ H' _ Rx.rebase fun H2 S2 k2=>?_;rw [Hv (by decide)];have R2:=Rx.aP S2;obtain ⟨ex,e2',kx⟩:=k2.front (ds:=[d]);subst e2';have p12:Pr (FF F0 e1 σ) H' H2:=by have:=Rx.m4 S2.cj;rwa [frontF (KpE.refl _)] at this
      exact hN () _ H2 trivial (R2.behind (pre:=[.dat d]) (ps:=[some x]) (fun s hs=>by rw [Hj.mp hs];trivial) rfl) kx p12 rfl
     ·cases hs
    ·intro acc H' R' hd hz p hp;have eF:=(aI e1 js ec).ff (F0:=F0) (σ:=σ);have s:=ax.nw (.lst acc) hp;exact q _ _ (R'.same s) (k1.trans (aI e1 js ec).kp) (R'.jZ (pr:=.frs (.list ys)) s ⟨p,rfl,hp,acc,ah,hz,by rw [eF];exact (hd.fresh hp).pr (Pr.of_same s) fun _ z=>z⟩)
   ·cases h
  ·cases h
 ·cases h
noncomputable def zh:St->Nat->List V->St
 | σ,_,[]=>σ
 | σ,k,v :: vs=>zh (σ.set k (some v)) (k+1) vs
theorem kW:∀ {vs:List V} {k:Nat} {σ:St} {H:Hp} {Q:St->Hp->Prop},Q (zh σ k vs) H->gNs (List.range' k vs.length) vs σ H Q
 | [],_,_,_,_,h=>⟨rfl,h⟩
 | v :: vs,k,σ,H,Q,h=>⟨v,vs,rfl,kW (vs:=vs) (k:=k+1) h⟩
theorem m5:∀ {vs:List V} {pre hd tl:St},hd.length=vs.length->zh (pre++(hd++tl)) pre.length vs=pre++(vs.map some++tl)
 | [],pre,hd,tl,h=>by
  have:hd=[]:=List.eq_nil_of_length_eq_zero h;subst this;rfl
 | v :: vs,pre,[],tl,h=>by cases h
 | v :: vs,pre,x :: hd,tl,h=>by
  have hl:hd.length=vs.length:=by simpa using h
  have e:(pre++(x :: hd++tl)).set pre.length (some v)=(pre++[some v])++(hd++tl):=by
   rw [List.set_append_right _ _ (Hl _)];simp
  unfold zh;rw [e];have:=m5 (vs:=vs) (pre:=pre++[some v]) (hd:=hd) (tl:=tl) hl;rw [Hq] at this;rw [show pre.length+1=pre.length+[some v].length from rfl,this];simp
theorem qY (n:List Str):(qu n).length=n.length:=by unfold qu;rw [Hb]
theorem yP {n:List Str} {js:List Nat} {it:XI} {e:XE} (ii:SI K ga gd it) (ie:SE K ga gd e):SE K ga gd (.sH n js it e):=by
 intro env rv env' h F0 H₀ I σ H Q R q;simp only [dE] at h;split at h
 ·rename_i ds lock e1 h1;split at h
  ·rename_i nd;split at h
   ·rename_i ys ec h2;cases h;refine ii _ _ _ _ h1 F0 H₀ I σ H _ R fun J H1 R1 k1 _ hit=>?_;refine Exists.elim (qf (Q:=Q) (τ:=St) (TI:=fun t=>∃ hd:St,hd.length=n.length/\t=hd++aT js σ) (t0:=qu n++aT js σ) (body:=fun t acc x H' N=>gTp K (List.range n.length) x t H' fun σ2 H2=>rE K ga e σ2 H2 fun y H3=>N σ2 (acc++[y]) H3) ⟨qu n,qY n,rfl⟩ R1 nd hit h2 ?_ ?_) fun W hw=>?_
    rotate_right 1
    ·obtain ⟨w0,hW⟩:=hw;exact ⟨W,w0,hW⟩
    ·rintro t acc d envc y envc' x H' ⟨hd,hl,rfl⟩ hs Rc no hdx N hN;have eF:FF (FF F0 e1 σ) envc (aT js σ)=FF F0 e1 σ:=bV no;unfold jv at hs;split at hs
     ·rename_i xs;split at hs
      ·rename_i hxl;split at hs
       ·rename_i rv e3 hE;split at hs
        ·rename_i dy hv;cases hs;obtain ⟨a,vs,rfl,hq,hz,hdl⟩:=hdx;have hvl:vs.length=n.length:=by rw [hdl.len,hxl]
         refine ⟨a,vs,rfl,hq,by rw [Ie];exact hvl,?_⟩;rw [List.range_eq_range',<-hvl];refine kW ?_;have es:zh (hd++aT js σ) 0 vs=vs.map some++aT js σ:=m5 (pre:=[]) (by rw [hl,hvl]);rw [es];have Rx:Rel K (FF F0 e1 σ) H1 (IA (cq e1 lock js) (aT js σ)) (xs.map .dat++envc) (vs.map some++aT js σ) H':=Rc.front (by rw [eF];exact hdl);have hpre:∀ s∈(xs.map Sl.dat),oX s:=fun s hs=>by obtain ⟨d,_,rfl⟩:=Hk.mp hs;trivial
         have hpl:(xs.map Sl.dat).length=(vs.map some).length:=by rw [Hb,Hb,hdl.len]
         have frontF:∀ {e2:En},KpE envc e2->FF (FF F0 e1 σ) (xs.map .dat++e2) (vs.map some++aT js σ)=FF F0 e1 σ:=fun {e2} k=>(fS hpre hpl).trans (bV (no.kp k));refine ie _ _ _ hE _ _ _ _ H' _ Rx.rebase fun v H3 S3 k3 r3=>?_;have R3:=Rx.aP S3;obtain ⟨ex,e3',kx⟩:=k3.front;subst e3';have p:Pr (FF F0 e1 σ) H' H3:=by have:=Rx.m4 S3.cj;rwa [frontF (KpE.refl _)] at this
         have a3:=r3.av;rw [hv] at a3;have dv:Dm K (FF F0 e1 σ) H3 dy v:=by
          have:Dm K (FF (FF F0 e1 σ) (xs.map .dat++ex) (vs.map some++aT js σ)) H3 dy v:=a3
          rwa [frontF kx] at this
         have ed:(xs.map Sl.dat++ex).drop n.length=ex:=by rw [<- hxl,<-Hb (f:=Sl.dat),List.drop_left]
         rw [ed] at hN;exact hN _ _ H3 ⟨vs.map some,by rw [Hb];exact hvl,rfl⟩ (R3.behind hpre hpl) kx p ⟨v,rfl,dv⟩
        ·cases hs
       ·cases hs
      ·cases hs
     ·cases hs
    ·intro acc H' R' hd hz p hp;have eF:=(aI e1 js ec).ff (F0:=F0) (σ:=σ);have s:=ax.nw (.lst acc) hp;exact q _ _ (R'.same s) (k1.trans (aI e1 js ec).kp) (R'.jZ (pr:=.frs (.list ys)) s ⟨p,rfl,hp,acc,ah,hz,by rw [eF];exact (hd.fresh hp).pr (Pr.of_same s) fun _ z=>z⟩)
   ·cases h
  ·cases h
 ·cases h
mutual
theorem sE (hg:∀ g d,gd[g]?=some d->∀ F H,Dm K F H d (ga g)):∀ e:XE,SE K ga gd e
 | .var i=>Dh i | .mov i=>Cs i | .tke i=>CJ i | .cst c=>Eu c | .glb g=>Dz hg g
 | .prm p as=>Ed (sA hg as) | .met m o as=>CF (sE hg o) (sA hg as) | .mtr m i as=>Dw (sA hg as) | .call f as=>s_call (sA hg as)
 | .tup as=>Ei (sA hg as) | .lst as=>CL (sA hg as) | .dsp as=>EW (sPs hg as) | .fst as=>Cr (sF hg as)
 | .ifx c a b=>El (sT hg c) (sE hg a) (sE hg b) | .q0 a b=>Ba (sE hg a) (sE hg b) | .orv a b=>DG (sE hg a) (sE hg b) | .yq a=>BA (sE hg a)
 | .chn p q a b c=>Eg (sE hg a) (sE hg b) (sE hg c) | .sl2 p a b c=>DP (sE hg a) (sE hg b) (sE hg c)
 | .cmp js it c e=>Dt (sI hg it) (sT hg c) (sE hg e) | .sH n js it e=>yP (sI hg it) (sE hg e)
theorem sA (hg:∀ g d,gd[g]?=some d->∀ F H,Dm K F H d (ga g)):∀ e:XA,SA K ga gd e
 | .nil=>D6 | .cons e r=>BK (sE hg e) (sA hg r)
theorem sF (hg:∀ g d,gd[g]?=some d->∀ F H,Dm K F H d (ga g)):∀ e:XA,SF K ga gd e
 | .nil=>Cv | .cons e r=>zS (sE hg e) (sF hg r)
theorem sPs (hg:∀ g d,gd[g]?=some d->∀ F H,Dm K F H d (ga g)):∀ e:XP,SPs K ga gd e
 | .nil=>Cy | .cons k e r=>zU (sE hg k) (sE hg e) (sPs hg r)
theorem sT (hg:∀ g d,gd[g]?=some d->∀ F H,Dm K F H d (ga g)):∀ e:XT,ST K ga gd e
 | .tst e=>Ds (sE hg e) | .tru e=>EF (sE hg e) | .and a b=>Dp (sT hg a) (sT hg b) | .or a b=>F6 (sT hg a) (sT hg b) | .not a=>C1 (sT hg a) | .yes=>Dy
theorem sI (hg:∀ g d,gd[g]?=some d->∀ F H,Dm K F H d (ga g)):∀ e:XI,SI K ga gd e
 | .lst e=>xq (sE hg e) | .tup e=>z4 (sE hg e) | .str e=>Ej (sE hg e) | .rng1 as=>Bb (sA hg as) | .rng2 as=>zi (sA hg as) | .dct e=>DJ (sE hg e) | .sq e=>Gf (sE hg e) | .itm e=>EU (sE hg e) | .zip as=>Dv (sA hg as)
end
end
open PySem
section
variable {K:Fg} {F F' I I' F0:Addr->Prop} {H H' H₀ H1:Hp} {env env' e1:En} {σ σ':St} {ga:Nat->V} {gd:List PyData}
theorem LsF.aL {a:Addr} {xs:List V} (h:LsF K F H a xs):LsF K (fun b=>F b\/H b=none) H a xs:=by
 rcases h with ⟨n,h⟩ | h
 ·refine .inl ⟨fun z=>z.elim n fun e=>?_,h⟩;rcases h with h | ⟨o,h⟩ <;> (rw [e] at h;cases h)
 ·exact .inr h
mutual
theorem Dm.aL:∀ {d:PyData} {v:V},Dm K F H d v->Dm K (fun b=>F b\/H b=none) H d v
 | .none,v,h=>h
 | .bool b,v,h=>h
 | .int i,v,h=>h
 | .str x,v,h=>h
 | .list ds,v,h=>by
  obtain ⟨a,xs,e,l,z,r⟩:=h;exact ⟨a,xs,e,l.aL,z,DmL.aL r⟩
 | .tuple ds,v,h=>by
  obtain ⟨a,xs,e,l,z,r⟩:=h;exact ⟨a,xs,e,l,z,DmL.aL r⟩
 | .dict kvs,v,h=>by
  obtain ⟨a,ep,xs,e,n,l,z,r⟩:=h;exact ⟨a,ep,xs,e,fun q=>q.elim n fun q=>(by rw [q] at l;cases l),l,z,DmP.aL r⟩
theorem DmL.aL:∀ {ds:List PyData} {vs:List V},DmL K F H ds vs->DmL K (fun b=>F b\/H b=none) H ds vs
 | [],vs,h=>h
 | d :: ds,vs,h=>by
  obtain ⟨v,r,e,h1,h2⟩:=h;exact ⟨v,r,e,Dm.aL h1,DmL.aL h2⟩
theorem DmP.aL:∀ {ds:List (PyData×PyData)} {vs:List (PyData×V×V)},DmP K F H ds vs->DmP K (fun b=>F b\/H b=none) H ds vs
 | [],vs,h=>h
 | (k,d) :: ds,vs,h=>by
  obtain ⟨j,v,r,e,e2,h0,h1,h2⟩:=h;exact ⟨j,v,r,e,e2,Dm.aL h0,Dm.aL h1,DmP.aL h2⟩
end
theorem Top.aL {d:PyData} {a:Addr} (h:Top K F H d a):Top K (fun b=>F b\/H b=none) H d a:=by
 cases d with
 | list ds=>obtain ⟨xs,e,z,r⟩:=h;exact ⟨xs,e,z,r.aL⟩
 | dict ds=>obtain ⟨ep,xs,e,z,r⟩:=h;exact ⟨ep,xs,e,z,r.aL⟩
 | _=>exact absurd h id
theorem eH.aL {d:PyData} {a:Addr} (h:eH K F I H d a):eH K (fun b=>F b\/H b=none) (fun b=>I b\/H b=none) H d a:=by
 cases d with
 | list ds=>obtain ⟨xs,e,z,r⟩:=h;exact ⟨xs,e.aL,z,r.aL⟩
 | dict ds =>
  obtain ⟨ep,xs,n,e,z,r⟩:=h;exact ⟨ep,xs,fun q=>q.elim n fun q=>(by rw [q] at e;cases e),e,z,r.aL⟩
 | _=>exact absurd h id
theorem Pr.FP (p:Pr F H H') (h:∀ b,F b->F' b):Pr F' H H':=fun b o e n=>p b o e (n.imp (fun z q=>z (h _ q)) id)
def Evs:Sl->Sl->Prop
 | .ino _,s=>∃ d,s=.ino d
 | .ro d,s=>s=.ro d
 | _,s=>(∀ d,s≠.ino d)/\∀ d,s≠.ro d
def Ar:Sl->Prop | .ino _=>True | .ro _=>True | _=>False
def KpS (env:En) (σ:St) (env':En) (σ':St):Prop:=env'.length=env.length/\∀ (i:Nat) (s:Sl),env[i]?=some s->∃ s',env'[i]?=some s'/\Evs s s'/\(Ar s->σ'[i]?=σ[i]?)
theorem Evs.refl:∀ s,Evs s s
 | .un=>⟨fun _=>nofun,fun _=>nofun⟩
 | .dat _=>⟨fun _=>nofun,fun _=>nofun⟩
 | .own d=>⟨fun _=>nofun,fun _=>nofun⟩
 | .ino d=>⟨d,rfl⟩
 | .ro _=>rfl
def soft (s:Sl):Prop:=(∀ d,s≠.ino d)/\∀ d,s≠.ro d
theorem Evs.soft {s s':Sl} (h:Evs s s') (q:L2.soft s):L2.soft s':=by
 cases s with
 | ino d=>exact absurd rfl (q.1 d)
 | ro d=>exact absurd rfl (q.2 d)
 | _=>exact h
theorem Evs.of {s s':Sl} (q:L2.soft s) (q':L2.soft s'):Evs s s':=by
 cases s with
 | ino d=>exact absurd rfl (q.1 d)
 | ro d=>exact absurd rfl (q.2 d)
 | _=>exact q'
theorem Evs.trans {a b c:Sl} (h:Evs a b) (q:Evs b c):Evs a c:=by
 cases a with
 | ino d=>obtain ⟨d',rfl⟩:=h;exact q
 | ro d=>rw [show b=.ro d from h] at q;exact q
 | un=>exact Evs.of ⟨fun _=>nofun,fun _=>nofun⟩ (q.soft h)
 | dat _=>exact Evs.of ⟨fun _=>nofun,fun _=>nofun⟩ (q.soft h)
 | own _=>exact Evs.of ⟨fun _=>nofun,fun _=>nofun⟩ (q.soft h)
theorem Evs.Ar {a b:Sl} (h:Evs a b) (q:L2.Ar a):L2.Ar b:=by
 cases a with
 | ino d=>obtain ⟨d',rfl⟩:=h;trivial
 | ro d=>rw [show b=.ro d from h];trivial
 | _=>exact absurd q id
theorem KpS.refl (env:En) (σ:St):KpS env σ env σ:=⟨rfl,fun i s e=>⟨s,e,.refl s,fun _=>rfl⟩⟩
theorem KpS.trans {a b c:En} {x y z:St} (h:KpS a x b y) (q:KpS b y c z):KpS a x c z:=⟨q.1.trans h.1,fun i s e=>by
 obtain ⟨s1,e1,v1,w1⟩:=h.2 i s e;obtain ⟨s2,e2,v2,w2⟩:=q.2 i s1 e1
 exact ⟨s2,e2,v1.trans v2,fun t=>(w2 (v1.Ar t)).trans (w1 t)⟩⟩
theorem KpE.s (k:KpE env env'):KpS env σ env' σ:=⟨k.1,fun i s e=>by
 obtain ⟨s',e',v⟩:=k.2 i s e;refine ⟨s',e',?_,fun _=>rfl⟩;cases s with
 | un=>rw [show s'=.un from v];exact .refl _
 | dat d=>rw [show s'=.dat d from v];exact .refl _
 | own d=>rcases v with ⟨d',rfl⟩ | ⟨d',rfl⟩ | rfl <;> exact ⟨fun _=>nofun,fun _=>nofun⟩
 | ino d=>exact v
 | ro d=>exact v⟩
theorem gf {i:Nat} (h:free env i=true):∃ s,env[i]?=some s/\L2.soft s:=by
 unfold free at h;split at h
 ·rename_i e;exact ⟨_,e,fun _=>nofun,fun _=>nofun⟩
 ·rename_i e;exact ⟨_,e,fun _=>nofun,fun _=>nofun⟩
 ·rename_i e;exact ⟨_,e,fun _=>nofun,fun _=>nofun⟩
 ·cases h
theorem sG {i:Nat} {s s':Sl} {x:Option V} (e:env[i]?=some s) (q:L2.soft s) (q':L2.soft s'):KpS env σ (env.set i s') (σ.set i x):=by
 have hi:i < env.length:=(Hd.mp e).1;refine ⟨HF,fun j t h=>?_⟩;by_cases z:i=j
 ·subst z;rw [e] at h;cases h;refine ⟨s',Ho hi,.of q q',fun t=>?_⟩;cases s with
  | ino d=>exact absurd rfl (q.1 d)
  | ro d=>exact absurd rfl (q.2 d)
  | _=>exact absurd t id
 ·exact ⟨t,by rw [Hf z];exact h,.refl t,fun _=>by rw [Hf z]⟩
def kJ (K:Fg) (F0:Addr->Prop) (H₀:Hp) (I:Addr->Prop) (env:En) (σ:St) (D:Ends):Out->Prop
 | .nx e=>∀ σ' H',Rel K F0 H₀ I e σ' H'->KpS env σ e σ'->D.nx σ' H'
 | .bk e=>∀ σ' H',Rel K F0 H₀ I e σ' H'->KpS env σ e σ'->D.bk σ' H'
 | .ct e=>∀ σ' H',Rel K F0 H₀ I e σ' H'->KpS env σ e σ'->D.ct σ' H'
 | .rt rv e=>∀ v σ' H',Rel K F0 H₀ I e σ' H'->KpS env σ e σ'->c7 K F0 H₀ I e σ' H' rv v->D.rt v H'
def SS (K:Fg) (ga:Nat->V) (gd:List PyData) (s:XS):Prop:=∀ (env:En) (out:Out),dS gd s env=some out->∀ (F0:Addr->Prop) (H₀:Hp) (I:Addr->Prop) (σ:St) (H:Hp) (D:Ends),Rel K F0 H₀ I env σ H->kJ K F0 H₀ I env σ D out->rS K ga s D σ H
theorem kJ.from {D:Ends} {out:Out} (k:KpS env σ env' σ') (h:kJ K F0 H₀ I env σ D out):kJ K F0 H₀ I env' σ' D out:=by
 cases out with
 | nx e=>exact fun s h1 r q=>h s h1 r (k.trans q)
 | bk e=>exact fun s h1 r q=>h s h1 r (k.trans q)
 | ct e=>exact fun s h1 r q=>h s h1 r (k.trans q)
 | rt rv e=>exact fun v s h1 r q w=>h v s h1 r (k.trans q) w
theorem A3 {a b:XS} (ia:SS K ga gd a) (ib:SS K ga gd b):SS K ga gd (.seq a b):=by
 intro env out h F0 H₀ I σ H D R q;simp only [dS] at h;split at h
 ·rename_i e h1;refine ia _ _ h1 F0 H₀ I σ H _ R fun σ' H' R' k'=>?_;exact ib _ _ h F0 H₀ I σ' H' D R' (q.from k')
 ·rename_i hn;refine ia _ _ h F0 H₀ I σ H _ R ?_;cases out with
  | nx e=>exact absurd h (hn e)
  | bk e=>exact q
  | ct e=>exact q
  | rt rv e=>exact q
theorem Rel.E8 (R:Rel K F0 H₀ I env σ H) {i:Nat} {d:PyData} {v:V} (hf:free env i=true) (h:Dm K (FF F0 env σ) H d v):Rel K F0 H₀ I (env.set i (.dat d)) (σ.set i (some v)) H/\KpS env σ (env.set i (.dat d)) (σ.set i (some v)):=by
 obtain ⟨s,e,q⟩:=gf hf;have hi:i < env.length:=(Hd.mp e).1;have R1:=R.forget i (some v);have:=R1.putD (i:=i) (d:=d) (v:=v) (Ho hi) (h.mono (R.sub i _).1);rw [Ir,Ir] at this;exact ⟨this,sG e q ⟨fun _=>nofun,fun _=>nofun⟩⟩
theorem wk {i:Nat} {e:XE} (ie:SE K ga gd e):SS K ga gd (.cM i e):=by
 intro env out h F0 H₀ I σ H D R q;simp only [dS] at h;split at h
 ·rename_i rv e1 h1;split at h
  ·rename_i d hv;split at h
   ·rename_i hf;cases h;refine ie _ _ _ h1 F0 H₀ I σ H _ R fun v H1 R1 k1 r1=>?_;have a1:=r1.av;rw [hv] at a1;obtain ⟨R2,k2⟩:=R1.E8 hf (show Dm K _ H1 d v from a1);exact q _ H1 R2 (k1.s.trans k2)
   ·cases h
  ·cases h
 ·cases h
theorem c7.forget {d:PyData} {v:V} (h:c7 K F0 H₀ I env σ H (.frs d) v) (i:Nat) (x:Option V) (hs:∀ s,env[i]?=some s->L2.soft s):c7 K F0 H₀ I (env.set i .un) (σ.set i x) H (.frs d) v:=by
 obtain ⟨a,ea,R,t,w,nF,hi,hr⟩:=h;have R0:=R.less hi;obtain ⟨hf,hia⟩:=R0.sub i x;have hf':∀ b,(FF F0 (env.set i .un) (σ.set i x) b\/b=a)->(FF F0 env σ b\/b=a):=fun b z=>z.imp (hf b) id;refine ⟨a,ea,R.forget i x,t.pr Pr.refl hf' fun _ z=>z,w,fun z=>nF (hf _ z),fun j c e s=>?_,fun j c e=>?_⟩
 ·rcases get_set e with ⟨_,z⟩ | ⟨n,e⟩
  ·cases z
  ·rw [Hf n] at s;exact hi j c e s
 ·rcases get_set e with ⟨_,z⟩ | ⟨n,e⟩
  ·cases z
  ·obtain ⟨b,s,r⟩:=hr j c e;exact ⟨b,by rw [Hf n];exact s,r.pr Pr.refl hf' (fun b z=>z.imp (hia b) id) fun _ _ z _=>z⟩
theorem wB {i:Nat} {e:XE} (ie:SE K ga gd e):SS K ga gd (.oM i e):=by
 intro env out h F0 H₀ I σ H D R q;simp only [dS] at h;split at h
 ·rename_i d e1 h1;split at h
  ·rename_i hf;cases h;refine ie _ _ _ h1 F0 H₀ I σ H _ R fun v H1 R1 k1 r1=>?_;obtain ⟨s,e,qs⟩:=gf hf;have hi:i < e1.length:=(Hd.mp e).1;have ev:∃ a,v=.ref a:=let ⟨a,e,_⟩:=r1;⟨a,e⟩
   obtain ⟨a,rfl⟩:=ev;have r2:=r1.forget i (some (.ref a)) (fun s' h=>by rw [e] at h;cases h;exact qs);have R2:=Rel.Fb (i:=i) (Ho hi) r2;rw [Ir,Ir] at R2;exact q _ H1 R2 (k1.s.trans (sG e qs ⟨fun _=>nofun,fun _=>nofun⟩))
  ·cases h
 ·cases h
theorem lR:∀ {is:List Nat} {ds:List PyData} {vs:List V} {env env':En} {σ:St} {Q:St->Hp->Prop},d7 env is ds=some env'->Rel K F0 H₀ I env σ H->DmL K (FF F0 env σ) H ds vs->(∀ σ',Rel K F0 H₀ I env' σ' H->KpS env σ env' σ'->Q σ' H)->gNs is vs σ H Q
 | [],[],vs,env,env',σ,Q,h,R,hd,q=>by
  cases h;exact ⟨hd,q σ R (KpS.refl _ _)⟩
 | [],d :: ds,vs,env,env',σ,Q,h,R,hd,q=>by cases h
 | i :: is,[],vs,env,env',σ,Q,h,R,hd,q=>by cases h
 | i :: is,d :: ds,vs,env,env',σ,Q,h,R,hd,q=>by
  unfold d7 at h;split at h
  ·rename_i hf;obtain ⟨v,r,rfl,h1,h2⟩:=hd;obtain ⟨R1,k1⟩:=R.E8 hf h1;obtain ⟨s,e,qs⟩:=gf hf;refine ⟨v,r,rfl,?_⟩;refine lR h R1 (h2.mono fun b z=>?_) fun σ' R' k'=>q σ' R' (k1.trans k');rcases z with z | ⟨j,c,e',s'⟩
   ·exact .inl z
   ·rcases get_set e' with ⟨_,y⟩ | ⟨n,e'⟩
    ·cases y
    ·rw [Hf n] at s';exact .inr ⟨j,c,e',s'⟩
  ·cases h
theorem wF {is:List Nat} {e:XE} (ie:SE K ga gd e):SS K ga gd (.ym is e):=by
 intro env out h F0 H₀ I σ H D R q;simp only [dS] at h;split at h
 ·rename_i rv e1 h1;split at h
  ·rename_i ds hv;split at h
   ·rename_i e2 hset;cases h;refine ie _ _ _ h1 F0 H₀ I σ H _ R fun v H1 R1 k1 r1=>?_;have a1:=r1.av;rw [hv] at a1;obtain ⟨a,xs,rfl,l,z,r⟩:=(show Dm K (FF F0 e1 σ) H1 (.tuple ds) v from a1);have hlen:∀ {is:List Nat} {ds:List PyData} {e e':En},d7 e is ds=some e'->is.length=ds.length:=by
     intro is;induction is with
     | nil=>intro ds e e' h;cases ds with
      | nil=>rfl
      | cons _ _=>cases h
     | cons i is ih=>intro ds e e' h;cases ds with
      | nil=>cases h
      | cons d ds =>
       unfold d7 at h;split at h
       ·rw [Hx,Hx,ih h]
       ·cases h
    exact ⟨a,xs,rfl,l,by rw [r.len,hlen hset],lR hset R1 r fun σ' R' k'=>q σ' H1 R' (k1.s.trans k')⟩
   ·cases h
  ·cases h
 ·cases h
theorem xr {e:XE} (ie:SE K ga gd e):SS K ga gd (.drop e):=by
 intro env out h F0 H₀ I σ H D R q;simp only [dS] at h;split at h
 ·rename_i rv e1 h1;cases h;exact ie _ _ _ h1 F0 H₀ I σ H _ R fun v H1 R1 k1 r1=>q σ H1 R1 k1.s
 ·cases h
theorem A5 {e:XE} (ie:SE K ga gd e):SS K ga gd (.ret e):=by
 intro env out h F0 H₀ I σ H D R q;simp only [dS] at h;split at h
 ·rename_i rv e1 h1;cases h;exact ie _ _ _ h1 F0 H₀ I σ H _ R fun v H1 R1 k1 r1=>q v σ H1 R1 k1.s r1
 ·cases h
theorem zG {c:XT} {a b:XS} (ic:ST K ga gd c) (ia:SS K ga gd a) (ib:SS K ga gd b):SS K ga gd (.ifs c a b):=by
 intro env out h F0 H₀ I σ H D R q;simp only [dS] at h;split at h
 ·rename_i e1 h1;refine ic _ _ _ h1 F0 H₀ I σ H _ R fun H1 R1 k1=>?_;rw [Ht rfl];exact ia _ _ h F0 H₀ I σ H1 D R1 (q.from k1.s)
 ·rename_i e1 h1;refine ic _ _ _ h1 F0 H₀ I σ H _ R fun H1 R1 k1=>?_;rw [Hv (by decide)];exact ib _ _ h F0 H₀ I σ H1 D R1 (q.from k1.s)
 ·cases h
theorem Bp {m:um} {i:Nat} {k e:XE} (ik:SE K ga gd k) (ie:SE K ga gd e):SS K ga gd (.sto m i k e):=by
 intro env out h F0 H₀ I σ H D R q;simp only [dS] at h;split at h
 ·rename_i rv e1 h1;split at h
  ·rename_i x hv;split at h
   ·rename_i d0 hm0;split at h
    ·rename_i rk e2 h2;split at h
     ·rename_i dk d hvk hm;split at h
      ·rename_i d' hf;cases h;refine ie _ _ _ h1 F0 H₀ I σ H _ R fun v H1 R1 k1 r1=>?_;obtain ⟨_,a,s,_⟩:=R1.cb hm0;refine ⟨.ref a,s,?_⟩;refine ik _ _ _ h2 F0 _ _ σ H1 _ R1.rebase fun u H2 S2 k2 r2=>?_;have R2:=R1.aP S2;have a1:=r1.av;rw [hv] at a1;have dx:=R1.nV S2 k2 (show Dm K _ H1 x v from a1);obtain ⟨m2,a',s',f2,t2⟩:=R2.cb hm;rw [s] at s';cases s';refine m.ok K _ H2 d a dk x u v d' _ hf f2 t2 (r2.av.vw R2 hvk) dx fun H3 hk ht=>?_;exact q σ H3 (R2.FE hm s hk ht) ((k1.trans k2).trans (p9 _ _ _)).s
      ·cases h
     ·cases h
    ·cases h
   ·cases h
  ·cases h
 ·cases h
theorem DE {n:Nat} {c:XT} {b:XS} (ic:ST K ga gd c) (ib:SS K ga gd b):SS K ga gd (.wh n c b):=by
 intro env out h F0 H₀ I σ H D R q;simp only [dS] at h;refine ⟨fun m σ' H'=>∃ env',whL (dT gd c) (dS gd b) m env'=some out/\Rel K F0 H₀ I env' σ' H'/\KpS env σ env' σ',⟨n,env,h,R,KpS.refl _ _⟩,?_⟩;rintro m σ' H' ⟨env',hw,R',k'⟩;cases m with
 | zero=>cases hw
 | succ m =>
  unfold whL at hw;split at hw
  ·rename_i e1 h1;refine ic _ _ _ h1 F0 H₀ I σ' H' _ R' fun H2 R2 k2=>?_;rw [Ht rfl];refine ⟨fun σ3 H3=>∃ env3,whL (dT gd c) (dS gd b) m env3=some out/\Rel K F0 H₀ I env3 σ3 H3/\KpS env σ env3 σ3,fun σ3 H3 z=>⟨m,Ju _,z⟩,?_⟩;split at hw
   ·rename_i e hb;exact ib _ _ hb F0 H₀ I σ' H2 _ R2 fun σ3 H3 R3 k3=>⟨e,hw,R3,(k'.trans k2.s).trans k3⟩
   ·rename_i e hb;exact ib _ _ hb F0 H₀ I σ' H2 _ R2 fun σ3 H3 R3 k3=>⟨e,hw,R3,(k'.trans k2.s).trans k3⟩
   ·rename_i e hb;cases hw;exact ib _ _ hb F0 H₀ I σ' H2 _ R2 fun σ3 H3 R3 k3=>q σ3 H3 R3 ((k'.trans k2.s).trans k3)
   ·rename_i r e hb;cases hw;exact ib _ _ hb F0 H₀ I σ' H2 _ R2 fun v σ3 H3 R3 k3 r3=>q v σ3 H3 R3 ((k'.trans k2.s).trans k3) r3
   ·cases hw
  ·rename_i e1 h1;cases hw;refine ic _ _ _ h1 F0 H₀ I σ' H' _ R' fun H2 R2 k2=>?_;rw [Hv (by decide)];exact q σ' H2 R2 (k'.trans k2.s)
  ·cases hw
end
open PySem
section
variable {K:Fg} {F F' I I' F0:Addr->Prop} {H H' H₀ H1:Hp} {env env' e1:En} {σ σ':St} {ga:Nat->V} {gd:List PyData}
theorem Rel.DH (R:Rel K F0 H₀ I env σ H) (h:∀ b,I b->I' b):Rel K F0 H₀ I' env σ H :=
 ⟨R.len,R.dat,fun i d e=>let ⟨a,s,n,w,t⟩:=R.own i d e;⟨a,s,n,w.imp id (h _),t⟩,fun i d e=>let ⟨a,s,n,w,t⟩:=R.ino i d e;⟨a,s,n,h _ w,t⟩,R.ro,R.sep,R.dom,fun b o e n=>R.cj b o e fun z=>n (h _ z)⟩
theorem Rel.eqF {F1:Addr->Prop} (R:Rel K F0 H₀ I env σ H) (h:∀ b,F0 b↔F1 b):Rel K F1 H₀ I env σ H:=by
 have:F0=F1:=funext fun b=>propext (h b);exact this▸R
theorem Rel.Cz (R:Rel K F0 H₀ I env σ H) {i:Nat} {d:PyData} {a:Addr} (hu:env[i]?=some .un) (s:σ[i]?=some (some (.ref a))) (h:eH K (FF F0 env σ) (IA env σ) H d a):Rel K F0 H₀ I (env.set i (.ro d)) σ H:=by
 have hi:i < env.length:=(Hd.mp hu).1;have eF:FF F0 (env.set i (.ro d)) σ=FF F0 env σ:=by
  have:=iP (F0:=F0) (σ:=σ) (s:=.ro d) (x:=some (.ref a)) hu (fun _=>nofun)
  rwa [set_same s] at this
 have eI:IA (env.set i (.ro d)) σ=IA env σ:=by
  have:=rV (σ:=σ) (s:=.ro d) (x:=some (.ref a)) hu (fun _=>⟨nofun,nofun⟩)
  rwa [set_same s] at this
 have mm:∀ j,mu (env.set i (.ro d)) j->mu env j:=fun j h=>by
  obtain ⟨c,e | e⟩:=h
  ·rcases get_set e with ⟨_,z⟩ | ⟨n,e⟩
   ·cases z
   ·exact ⟨c,.inl e⟩
  ·rcases get_set e with ⟨_,z⟩ | ⟨n,e⟩
   ·cases z
   ·exact ⟨c,.inr e⟩
 refine ⟨by rw [HF];exact R.len,fun j c e=>?_,fun j c e=>?_,fun j c e=>?_,fun j c e=>?_,fun j k b h1 h2 h3 h4=>R.sep j k b (mm j h1) (mm k h2) h3 h4,R.dom,R.cj⟩
 ·rw [eF];rcases get_set e with ⟨_,z⟩ | ⟨n,e⟩
  ·cases z
  exact R.dat j c e
 ·rw [eF];rcases get_set e with ⟨_,z⟩ | ⟨n,e⟩
  ·cases z
  exact R.own j c e
 ·rw [eF];rcases get_set e with ⟨_,z⟩ | ⟨n,e⟩
  ·cases z
  exact R.ino j c e
 ·rw [eF,eI];rcases get_set e with ⟨z,y⟩ | ⟨n,e⟩
  ·subst z;cases y;exact ⟨a,s,h⟩
  exact R.ro j c e
theorem Rel.F5 (R:Rel K F0 H₀ I env σ H) {i:Nat} {d:PyData} {a:Addr} (hu:env[i]?=some .un) (s:σ[i]?=some (some (.ref a))) (h:Top K (FF F0 env σ) H d a) (hF:F0 a) (hI:I a) (na:∀ j,mu env j->σ[j]?≠some (some (.ref a)))
  (hro:∀ (j:Nat) (c:PyData),env[j]?=some (.ro c)->∃ b,σ[j]?=some (some (.ref b))/\eH K (FF F0 env σ) (fun b=>IA env σ b\/b=a) H c b):Rel K F0 H₀ I (env.set i (.ino d)) σ H:=by
 have hi:i < env.length:=(Hd.mp hu).1;have eF:FF F0 (env.set i (.ino d)) σ=FF F0 env σ:=by
  have:=iP (F0:=F0) (σ:=σ) (s:=.ino d) (x:=some (.ref a)) hu (fun _=>nofun)
  rwa [set_same s] at this
 have mm:∀ j,mu (env.set i (.ino d)) j->i=j\/(mu env j/\i≠j):=fun j h=>by
  obtain ⟨c,e | e⟩:=h
  ·rcases get_set e with ⟨z,_⟩ | ⟨n,e⟩
   ·exact .inl z
   ·exact .inr ⟨⟨c,.inl e⟩,n⟩
  ·rcases get_set e with ⟨z,_⟩ | ⟨n,e⟩
   ·exact .inl z
   ·exact .inr ⟨⟨c,.inr e⟩,n⟩
 have eI:∀ b,IA (env.set i (.ino d)) σ b->IA env σ b\/b=a:=by
  rintro b ⟨j,m,q⟩;rcases mm j m with z | ⟨m',n⟩
  ·subst z;rw [s] at q;cases q;exact .inr rfl
  ·exact .inl ⟨j,m',q⟩
 refine ⟨by rw [HF];exact R.len,fun j c e=>?_,fun j c e=>?_,fun j c e=>?_,fun j c e=>?_,fun j k b h1 h2 h3 h4=>?_,R.dom,R.cj⟩
 ·rw [eF];rcases get_set e with ⟨_,z⟩ | ⟨n,e⟩
  ·cases z
  exact R.dat j c e
 ·rw [eF];rcases get_set e with ⟨_,z⟩ | ⟨n,e⟩
  ·cases z
  exact R.own j c e
 ·rw [eF];rcases get_set e with ⟨z,y⟩ | ⟨n,e⟩
  ·subst z;cases y;exact ⟨a,s,hF,hI,h⟩
  exact R.ino j c e
 ·rw [eF];rcases get_set e with ⟨_,z⟩ | ⟨n,e⟩
  ·cases z
  obtain ⟨b,q,r⟩:=hro j c e;exact ⟨b,q,r.pr Pr.refl (fun _ z=>z) eI fun _ _ z _=>z⟩
 ·rcases mm j h1 with z1 | ⟨m1,n1⟩
  ·rcases mm k h2 with z2 | ⟨m2,n2⟩
   ·rw [<- z1,<-z2]
   ·rw [<- z1,s] at h3;cases h3;exact absurd h4 (na k m2)
  ·rcases mm k h2 with z2 | ⟨m2,n2⟩
   ·rw [<- z2,s] at h4;cases h4;exact absurd h3 (na j m1)
   ·exact R.sep j k b m1 m2 h3 h4
structure Lk (K:Fg) (F0:Addr->Prop) (H₀:Hp) (I:Addr->Prop) (e1:En) (σ:St) (H1:Hp) (lock:Option Nat) (F1:Addr->Prop):Prop where
 rel:Rel K F1 H₀ I (a6 e1 lock) σ H1
 ff:FF F1 (a6 e1 lock) σ=FF F0 e1 σ
 ia:∀ b,IA (a6 e1 lock) σ b->IA e1 σ b/\∀ i,lock=some i->mu e1 i->σ[i]?≠some (some (.ref b))
 un:∀ env' σ' H',Rel K F1 H1 (IA (a6 e1 lock) σ) env' σ' H'->KpS (a6 e1 lock) σ env' σ'->Rel K F0 H₀ I (ao e1 lock env') σ' H'/\KpS e1 σ (ao e1 lock env') σ'/\FF F0 (ao e1 lock env') σ'=FF F1 env' σ'
theorem Lk.pP (R:Rel K F0 H₀ I e1 σ H1) {lock:Option Nat} (h1:a6 e1 lock=e1) (h2:∀ env',ao e1 lock env'=env') (h3:∀ i,lock=some i->¬mu e1 i):Lk K F0 H₀ I e1 σ H1 lock F0 :=
 ⟨by rw [h1];exact R,by rw [h1],fun b hb=>by rw [h1] at hb;exact ⟨hb,fun i hi m=>absurd m (h3 i hi)⟩,fun env' σ' H' S k=>by rw [h1] at S k;rw [h2];exact ⟨R.aP S,k,rfl⟩⟩
theorem Lk.zE (R:Rel K F0 H₀ I e1 σ H1) {i:Nat} {d:PyData} {a:Addr} (e:e1[i]?=some (.own d)\/e1[i]?=some (.ino d)) (s:σ[i]?=some (some (.ref a))):Lk K F0 H₀ I e1 σ H1 (some i) (fun b=>F0 b\/b=a):=by
 have hi:i < e1.length:=by rcases e with e | e <;> exact (Hd.mp e).1
 have mi:mu e1 i:=⟨d,e⟩;have el:a6 e1 (some i)=e1.set i (.ro d):=by simp only [a6];rcases e with e | e <;> rw [e]
 have hm:aC e1 i=some d:=by unfold aC;rcases e with e | e <;> rw [e]
 obtain ⟨_,a',s',fa,ta⟩:=R.cb hm;rw [s] at s';cases s';have hu:(e1.set i .un)[i]?=some .un:=Ho hi;have mmu:∀ j,mu (e1.set i .un) j->mu e1 j/\i≠j:=fun j h=>by
  obtain ⟨c,e | e⟩:=h
  ·rcases get_set e with ⟨_,z⟩ | ⟨n,e⟩
   ·cases z
   ·exact ⟨⟨c,.inl e⟩,n⟩
  ·rcases get_set e with ⟨_,z⟩ | ⟨n,e⟩
   ·cases z
   ·exact ⟨⟨c,.inr e⟩,n⟩
 have nIA:¬IA (e1.set i .un) σ a:=fun ⟨j,m,q⟩=>(mmu j m).2 (R.sep i j a mi (mmu j m).1 s q);have eFu:FF (fun b=>F0 b\/b=a) (e1.set i .un) σ=FF F0 e1 σ:=by
  funext b;apply propext;constructor
  ·rintro ((h | h) | ⟨j,c,e',q⟩)
   ·exact .inl h
   ·exact h▸fa
   ·rcases get_set e' with ⟨_,z⟩ | ⟨n,e'⟩
    ·cases z
    ·exact .inr ⟨j,c,e',q⟩
  ·rintro (h | ⟨j,c,e',q⟩)
   ·exact .inl (.inl h)
   ·by_cases n:i=j
    ·subst n;rw [s] at q;cases q;exact .inl (.inr rfl)
    ·exact .inr ⟨j,c,by rw [Hf n];exact e',q⟩
 have Ru:Rel K (fun b=>F0 b\/b=a) H₀ I (e1.set i .un) σ H1:=by
  rcases e with e | e
  ·obtain ⟨a2,s2,r⟩:=R.take e;rw [s] at s2;cases s2;obtain ⟨a3,ea,R',_⟩:=r;cases ea;exact R'
  ·have:=R.forget i (some (.ref a));rw [set_same s] at this;obtain ⟨a2,s2,f2,_⟩:=R.ino i d e;rw [s] at s2;cases s2;exact this.eqF fun b=>⟨.inl,fun z=>z.elim id fun z=>z▸f2⟩
 have Rl:Rel K (fun b=>F0 b\/b=a) H₀ I (e1.set i (.ro d)) σ H1:=by
  have:=Ru.Cz (d:=d) hu s (by rw [eFu];exact ta.ro nIA)
  rwa [Ir] at this
 have eFl:FF (fun b=>F0 b\/b=a) (e1.set i (.ro d)) σ=FF F0 e1 σ:=by
  rw [<- eFu];have:=iP (F0:=fun b=>F0 b\/b=a) (σ:=σ) (s:=.ro d) (x:=some (.ref a)) hu (fun _=>nofun)
  rwa [set_same s,Ir] at this
 have eIl:IA (e1.set i (.ro d)) σ=IA (e1.set i .un) σ:=by
  have:=rV (σ:=σ) (s:=.ro d) (x:=some (.ref a)) hu (fun _=>⟨nofun,nofun⟩)
  rwa [set_same s,Ir] at this
 have iaSub:∀ b,IA (e1.set i (.ro d)) σ b->IA e1 σ b:=fun b hb=>by rw [eIl] at hb;obtain ⟨j,m,q⟩:=hb;exact ⟨j,(mmu j m).1,q⟩
 refine ⟨by rw [el];exact Rl,by rw [el];exact eFl,fun b hb=>?_,fun env' σ' H' S k=>?_⟩
 ·rw [el,eIl] at hb;obtain ⟨j,m,q⟩:=hb;refine ⟨⟨j,(mmu j m).1,q⟩,fun i' hi' mi' si'=>?_⟩;cases hi';exact (mmu j m).2 (R.sep i j b mi (mmu j m).1 si' q)
 ·rw [el] at S k;have hro:(e1.set i (.ro d))[i]?=some (.ro d):=Ho hi;obtain ⟨si,he,hv,hs⟩:=k.2 i _ hro;have hv:si=.ro d:=hv;subst hv;have hs:=(hs trivial).trans s;have hi':i < env'.length:=(Hd.mp he).1;have na1:¬IA (e1.set i (.ro d)) σ a:=by rw [eIl];exact nIA
  have keepA:∀ o,H1 a=some o->H' a=some o:=fun o z=>S.cj a o z na1;have fSub:∀ b,FF (fun b=>F0 b\/b=a) env' σ' b->(FF F0 e1 σ b\/H1 b=none):=fun b z=>by
   rcases z with (z | z) | ⟨j,c,e',q⟩
   ·exact .inl (.inl z)
   ·exact .inl (z▸fa)
   ·obtain ⟨b',q',_,w,_⟩:=S.own j c e';rw [q] at q';cases q';rcases w with w | w
    ·exact .inr w
    ·exact .inl (R.ia (iaSub b w))
  have pF:Pr (fun b=>FF F0 e1 σ b\/H1 b=none) H1 H':=(R.m4 fun b o z n=>S.cj b o z fun y=>n (iaSub b y)).FP fun b z=>.inl z;have tA:Top K (FF (fun b=>F0 b\/b=a) env' σ') H' d a:=ta.aL.pr pF fSub keepA;have iaEnd:∀ b,IA env' σ' b->(IA e1 σ b\/H1 b=none):=fun b z=>by
   rcases S.iaI z with w | w
   ·exact .inr w
   ·exact .inl (iaSub b w)
  have roOld:∀ (j:Nat) (c:PyData),env'[j]?=some (.ro c)->i≠j->∃ b,σ'[j]?=some (some (.ref b))/\eH K (FF (fun b=>F0 b\/b=a) env' σ') (fun b=>IA env' σ' b\/b=a) H' c b:=fun j c e' n=>by
   have hj:j < e1.length:=by
    have:=(Hd.mp e').1;rw [k.1,HF] at this;exact this
   have e0:(e1.set i (.ro d))[j]?=some e1[j]:=by rw [Hf n];exact Hc hj
   obtain ⟨s',h',v',w'⟩:=k.2 j _ e0;rw [e'] at h';cases h';have es:e1[j]=.ro c:=by
    cases hh:e1[j] with
    | ino _=>rw [hh] at v';obtain ⟨_,z⟩:=v';cases z
    | ro c'=>rw [hh] at v';have:Sl.ro c=.ro c':=v';rw [this]
    | un=>rw [hh] at v';exact absurd rfl (v'.2 c)
    | dat _=>rw [hh] at v';exact absurd rfl (v'.2 c)
    | own _=>rw [hh] at v';exact absurd rfl (v'.2 c)
   have er:e1[j]?=some (.ro c):=by rw [Hc hj,es]
   obtain ⟨b,q,r⟩:=R.ro j c er;rw [es] at w';refine ⟨b,(w' trivial).trans q,r.aL.pr pF fSub (fun b z=>?_) fun b o z n=>S.cj b o z fun y=>n (.inl (iaSub b y))⟩;rcases z with z | z
   ·exact iaEnd b z
   ·exact .inl (z▸⟨i,mi,s⟩)
  have inoNe:∀ (j:Nat) (c:PyData),env'[j]?=some (.ino c)->σ'[j]?≠some (some (.ref a)):=fun j c e' q=>by
   have n:i≠j:=fun z=>by subst z;rw [he] at e';cases e'
   have hj:j < e1.length:=by
    have:=(Hd.mp e').1;rw [k.1,HF] at this;exact this
   have e0:(e1.set i (.ro d))[j]?=some e1[j]:=by rw [Hf n];exact Hc hj
   obtain ⟨s',h',v',w'⟩:=k.2 j _ e0;rw [e'] at h';cases h';have es:∃ c',e1[j]=.ino c':=by
    cases hh:e1[j] with
    | ino c'=>exact ⟨c',rfl⟩
    | ro c'=>rw [hh] at v';cases v'
    | un=>rw [hh] at v';exact absurd rfl (v'.1 c)
    | dat _=>rw [hh] at v';exact absurd rfl (v'.1 c)
    | own _=>rw [hh] at v';exact absurd rfl (v'.1 c)
   obtain ⟨c',es⟩:=es;have er:e1[j]?=some (.ino c'):=by rw [Hc hj,es]
   rw [es] at w';rw [w' trivial] at q;exact n (R.sep i j a mi ⟨c',.inr er⟩ s q)
  have Sf:Rel K (fun b=>F0 b\/b=a) H1 (IA e1 σ) (env'.set i .un) σ' H':=by
   have:=S.forget i (some (.ref a));rw [set_same hs] at this;exact this.DH iaSub
  have hu':(env'.set i .un)[i]?=some .un:=Ho hi';have eFe:FF (fun b=>F0 b\/b=a) (env'.set i .un) σ'=FF (fun b=>F0 b\/b=a) env' σ':=by
   funext b;apply propext;constructor
   ·rintro (h | ⟨j,c,e',q⟩)
    ·exact .inl h
    ·rcases get_set e' with ⟨_,z⟩ | ⟨n,e'⟩
     ·cases z
     ·exact .inr ⟨j,c,e',q⟩
   ·rintro (h | ⟨j,c,e',q⟩)
    ·exact .inl h
    ·have n:i≠j:=fun z=>by subst z;rw [he] at e';cases e'
     exact .inr ⟨j,c,by rw [Hf n];exact e',q⟩
  have iaE:∀ b,IA (env'.set i .un) σ' b->IA env' σ' b:=by
   rintro b ⟨j,⟨c,m⟩,q⟩;refine ⟨j,⟨c,?_⟩,q⟩;rcases m with m | m
   ·rcases get_set m with ⟨_,z⟩ | ⟨n,m⟩
    ·cases z
    ·exact .inl m
   ·rcases get_set m with ⟨_,z⟩ | ⟨n,m⟩
    ·cases z
    ·exact .inr m
  have kEnd:∀ t:Sl,Evs (e1[i]) t->KpS e1 σ (env'.set i t) σ':=fun t ht=>by
   refine ⟨by rw [HF,k.1,HF],fun j s0 e0=>?_⟩;by_cases z:i=j
   ·subst z;rw [Hc hi] at e0;cases e0;exact ⟨t,Ho hi',ht,fun _=>hs.trans s.symm⟩
   ·obtain ⟨s',h',v',w'⟩:=k.2 j s0 (by rw [Hf z];exact e0);exact ⟨s',by rw [Hf z];exact h',v',w'⟩
  rcases e with e | e
  ·have eu:ao e1 (some i) env'=env'.set i (.own d):=by simp only [ao];rw [e,he]
   obtain ⟨a2,s2,nF,_⟩:=R.own i d e;rw [s] at s2;cases s2;have nFF:¬FF F0 (env'.set i .un) σ' a:=by
    rintro (h | ⟨j,c,e',q⟩)
    ·exact nF h
    ·obtain ⟨b',q',n',_⟩:=Sf.own j c e';rw [q] at q';cases q';exact n' (.inr rfl)
   have rv:c7 K F0 H1 (IA e1 σ) (env'.set i .un) σ' H' (.frs d) (.ref a):=by
    refine ⟨a,rfl,Sf,?_,.inr ⟨i,mi,s⟩,nFF,fun j c e' q=>?_,fun j c e'=>?_⟩
    ·rw [<- et,eFe];exact tA
    ·rcases get_set e' with ⟨_,z⟩ | ⟨n,e'⟩
     ·cases z
     ·exact inoNe j c e' q
    ·rcases get_set e' with ⟨_,z⟩ | ⟨n,e'⟩
     ·cases z
     ·obtain ⟨b,q,r⟩:=roOld j c e' n;refine ⟨b,q,?_⟩;rw [<- et,eFe];exact r.pr Pr.refl (fun _ z=>z) (fun b z=>z.imp (iaE b) id) fun _ _ z _=>z
   have Rn:=Rel.Fb hu' rv;rw [Ir,set_same hs] at Rn;rw [eu];refine ⟨R.aP Rn,kEnd _ ?_,?_⟩
   ·have:e1[i]=.own d:=by have:=Hc hi;rw [e] at this;exact (HU this).symm
    rw [this];exact ⟨fun _=>nofun,fun _=>nofun⟩
   ·rw [<- eFe,et];funext b;apply propext;constructor
    ·rintro (h | ⟨j,c,e',q⟩)
     ·exact .inl (.inl h)
     ·rcases get_set e' with ⟨z,_⟩ | ⟨n,e'⟩
      ·subst z;rw [hs] at q;cases q;exact .inr rfl
      ·exact .inl (.inr ⟨j,c,by rw [Hf n];exact e',q⟩)
    ·rintro ((h | ⟨j,c,e',q⟩) | rfl)
     ·exact .inl h
     ·rcases get_set e' with ⟨_,z⟩ | ⟨n,e'⟩
      ·cases z
      ·exact .inr ⟨j,c,by rw [Hf n];exact e',q⟩
     ·exact .inr ⟨i,d,Ho hi',hs⟩
  ·have eu:ao e1 (some i) env'=env'.set i (.ino d):=by simp only [ao];rw [e,he]
   obtain ⟨a2,s2,f2,i2,_⟩:=R.ino i d e;rw [s] at s2;cases s2;have Sf2:Rel K F0 H1 (IA e1 σ) (env'.set i .un) σ' H':=Sf.eqF fun b=>⟨fun z=>z.elim id fun z=>z▸f2,.inl⟩;have eF0:FF F0 (env'.set i .un) σ'=FF (fun b=>F0 b\/b=a) env' σ':=by
    rw [<- eFe];have:(fun b=>F0 b\/b=a)=F0:=funext fun b=>propext ⟨fun z=>z.elim id fun z=>z▸f2,.inl⟩;rw [this]
   have Rn:=Sf2.F5 (d:=d) hu' hs (by rw [eF0];exact tA) f2 ⟨i,mi,s⟩ (fun j m q=>?_) (fun j c e'=>?_)
   ·rw [Ir] at Rn;rw [eu];refine ⟨R.aP Rn,kEnd _ ?_,?_⟩
    ·have:e1[i]=.ino d:=by have:=Hc hi;rw [e] at this;exact (HU this).symm
     rw [this];exact ⟨d,rfl⟩
    ·rw [<- eF0];have:=iP (F0:=F0) (σ:=σ') (s:=.ino d) (x:=some (.ref a)) hu' (fun _=>nofun)
     rwa [set_same hs,Ir] at this
   ·obtain ⟨c,m | m⟩:=m
    ·obtain ⟨b',q',n',_⟩:=Sf.own j c m;rw [q] at q';cases q';exact n' (.inr rfl)
    ·rcases get_set m with ⟨_,z⟩ | ⟨n,m⟩
     ·cases z
     ·exact inoNe j c m q
   ·rcases get_set e' with ⟨_,z⟩ | ⟨n,e'⟩
    ·cases z
    ·obtain ⟨b,q,r⟩:=roOld j c e' n;refine ⟨b,q,?_⟩;rw [eF0];exact r.pr Pr.refl (fun _ z=>z) (fun b z=>z.imp (iaE b) id) fun _ _ z _=>z
theorem Lk.of (R:Rel K F0 H₀ I e1 σ H1) (lock:Option Nat):∃ F1,Lk K F0 H₀ I e1 σ H1 lock F1/\(lkd e1 lock=false->F1=F0/\a6 e1 lock=e1/\∀ env',ao e1 lock env'=env'):=by
 cases lock with
 | none=>exact ⟨F0,Lk.pP R rfl (fun _=>rfl) (fun i z=>by cases z),fun _=>⟨rfl,rfl,fun _=>rfl⟩⟩
 | some i =>
  cases e:e1[i]? with
  | none =>
   have h1:a6 e1 (some i)=e1:=by simp only [a6];rw [e]
   have h2:∀ env',ao e1 (some i) env'=env':=fun env'=>by simp only [ao];rw [e]
   exact ⟨F0,Lk.pP R h1 h2 (fun j z m=>by cases z;obtain ⟨d,m | m⟩:=m <;> (rw [e] at m;cases m)),fun _=>⟨rfl,h1,h2⟩⟩
  | some s =>
   cases s with
   | own d =>
    obtain ⟨a,q,_⟩:=R.own i d e;exact ⟨_,Lk.zE R (.inl e) q,fun z=>by simp only [lkd] at z;rw [e] at z;cases z⟩
   | ino d =>
    obtain ⟨a,q,_⟩:=R.ino i d e;exact ⟨_,Lk.zE R (.inr e) q,fun z=>by simp only [lkd] at z;rw [e] at z;cases z⟩
   | un =>
    have h1:a6 e1 (some i)=e1:=by simp only [a6];rw [e]
    have h2:∀ env',ao e1 (some i) env'=env':=fun env'=>by simp only [ao];rw [e]
    exact ⟨F0,Lk.pP R h1 h2 (fun j z m=>by cases z;obtain ⟨d,m | m⟩:=m <;> (rw [e] at m;cases m)),fun _=>⟨rfl,h1,h2⟩⟩
   | dat d =>
    have h1:a6 e1 (some i)=e1:=by simp only [a6];rw [e]
    have h2:∀ env',ao e1 (some i) env'=env':=fun env'=>by simp only [ao];rw [e]
    exact ⟨F0,Lk.pP R h1 h2 (fun j z m=>by cases z;obtain ⟨d,m | m⟩:=m <;> (rw [e] at m;cases m)),fun _=>⟨rfl,h1,h2⟩⟩
   | ro d =>
    have h1:a6 e1 (some i)=e1:=by simp only [a6];rw [e]
    have h2:∀ env',ao e1 (some i) env'=env':=fun env'=>by simp only [ao];rw [e]
    exact ⟨F0,Lk.pP R h1 h2 (fun j z m=>by cases z;obtain ⟨d,m | m⟩:=m <;> (rw [e] at m;cases m)),fun _=>⟨rfl,h1,h2⟩⟩
theorem qh {b:PyData->En->Option Out} {ds:List PyData} {out:Out} {J:It} {F1 I1:Addr->Prop} {el:En} {g:TG} {tb:TS} {D:Ends} (R:Rel K F1 H1 I1 el σ H1) (hI:I1=IA el σ) (hit:sQ K (FF F1 el σ) I1 H1 J ds) (h:forL b ds el=some out)
  (turn:∀ d o env' σ' H' x,b d env'=some o->Rel K F1 H1 I1 env' σ' H'->KpS el σ env' σ'->Dm K (FF F1 env' σ') H' d x->∀ D':Ends,kJ K F1 H1 I1 env' σ' D' o->g x σ' H' fun σ2 H2=>tb D' σ2 H2)
  (q:kJ K F1 H1 I1 el σ D out) :
  ∃ W:Nat->Nat->St->Hp->Prop,(∃ m,W 0 m σ H1)/\∀ i m σ H,W i m σ H ->
   (J.stop i H/\D.nx σ H)\/(J.go i H/\∃ N:St->Hp->Prop,(∀ σ' H',N σ' H'->∃ m',m' < m/\W (i+1) m' σ' H')/\∀ x H',J.yld i H x H'->g x σ H' fun σ2 H2=>tb { D with nx:=N,ct:=N,bk:=D.nx } σ2 H2):=by
 subst hI;obtain ⟨hvl,hturn⟩:=hit;refine ⟨fun i m σ' H'=>m=ds.length - i/\i<=ds.length/\∃ env',forL b (ds.drop i) env'=some out/\Rel K F1 H1 (IA el σ) env' σ' H'/\KpS el σ env' σ',⟨ds.length,rfl,Ia _,el,h,R,KpS.refl _ _⟩,?_⟩;rintro i m σ' H' ⟨rfl,hi,env',hf,R',k'⟩;have hkept:∀ b o,H1 b=some o->¬IA el σ b->H' b=some o:=R'.cj;by_cases hlt:i < ds.length
 ·right;obtain ⟨go,yld⟩:=(hturn H' hkept i).1 (by omega);refine ⟨go,fun σ3 H3=>(ds.length - (i+1))=ds.length - (i+1)/\i+1<=ds.length/\∃ env',forL b (ds.drop (i+1)) env'=some out/\Rel K F1 H1 (IA el σ) env' σ3 H3/\KpS el σ env' σ3,fun σ3 H3 z=>⟨ds.length - (i+1),by omega,z⟩,fun x H'' hx=>?_⟩;obtain ⟨d,hd,hy9⟩:=yld x H'' hx;have fSub:∀ b,FF F1 env' σ' b->(FF F1 el σ b\/H1 b=none):=fun b z=>by
   rcases z with z | ⟨j,c,e',s'⟩
   ·exact .inl (.inl z)
   ·obtain ⟨b',q',_,w,_⟩:=R'.own j c e';rw [s'] at q';cases q';exact w.elim .inr fun w=>.inl (R.ia w)
  obtain ⟨sm,hdx'⟩:=hy9.dm (F2:=FF F1 env' σ') fun d v h=>h.aL.pr ((R.m4 hkept).FP fun b z=>.inl z) fSub;have R':=R'.same sm;have ed:ds.drop i=d :: ds.drop (i+1):=by
   rw [Jo hlt];obtain ⟨_,z⟩:=Hd.mp hd;rw [z]
  rw [ed] at hf;unfold forL at hf;split at hf
  ·rename_i e hb;exact turn d _ env' σ' H'' x hb R' k' hdx' _ fun σ3 H3 R3 k3=>⟨rfl,by omega,e,hf,R3,k'.trans k3⟩
  ·rename_i e hb;exact turn d _ env' σ' H'' x hb R' k' hdx' _ fun σ3 H3 R3 k3=>⟨rfl,by omega,e,hf,R3,k'.trans k3⟩
  ·rename_i e hb;cases hf;exact turn d _ env' σ' H'' x hb R' k' hdx' _ fun σ3 H3 R3 k3=>q σ3 H3 R3 (k'.trans k3)
  ·rename_i r e hb;cases hf;exact turn d _ env' σ' H'' x hb R' k' hdx' _ fun v σ3 H3 R3 k3 r3=>q v σ3 H3 R3 (k'.trans k3) r3
  ·cases hf
 ·left;have e:i=ds.length:=by omega
  subst e;rw [List.drop_length] at hf;unfold forL at hf;cases hf;exact ⟨(hturn H' hkept _).2 (by omega),q σ' H' R' k'⟩
theorem c7.unl {rv:RV} {v:V} {F1:Addr->Prop} {e2:En} (h:c7 K F1 H₀ I env σ H rv v) (hn:∀ d,rv≠.frs d) (eF:FF F0 e2 σ=FF F1 env σ) {H₁:Hp} {I₁:Addr->Prop}:c7 K F0 H₁ I₁ e2 σ H rv v:=by
 cases rv with
 | dat d=>show Dm K _ H d v;rw [eF];exact h
 | bor i=>exact h
 | frs d=>exact absurd rfl (hn d)
theorem c7.Cb {rv:RV} {v:V} (h:c7 K F0 H₀ I env σ H rv v):c7 K F0 H₀ I env σ H (rv.soft true) v:=by
 cases rv with
 | dat d=>exact h
 | bor i=>exact h
 | frs d=>exact h.av
theorem c7.aP {rv:RV} {v:V} (R:Rel K F0 H₀ I env σ H) (h:c7 K F0 H (IA env σ) env' σ' H' rv v):c7 K F0 H₀ I env' σ' H' rv v:=by
 cases rv with
 | dat d=>exact h
 | bor i=>exact h
 | frs d =>
  obtain ⟨a,ea,S,t,w,nF,hi,hr⟩:=h;have S0:=R.aP (S.less hi);refine ⟨a,ea,⟨S.len,S.dat,fun i c e=>?_,fun i c e=>?_,S.ro,S.sep,S.dom,S0.cj⟩,t,R.oi w,nF,hi,hr⟩
  ·obtain ⟨b,s,n,w',t'⟩:=S.own i c e;exact ⟨b,s,n,R.oi w',t'⟩
  ·obtain ⟨b,s,n,w',t'⟩:=S.ino i c e;obtain ⟨b2,s2,_,i2,_⟩:=S0.ino i c e;rw [s] at s2;cases s2;exact ⟨b,s,n,i2,t'⟩
theorem Lk.out {lock:Option Nat} {F1:Addr->Prop} {D:Ends} {out:Out} (R1:Rel K F0 H₀ I e1 σ H1) (L:Lk K F0 H₀ I e1 σ H1 lock F1) (hno:lkd e1 lock=false->F1=F0/\a6 e1 lock=e1/\∀ env',ao e1 lock env'=env')
  (q:kJ K F0 H₀ I e1 σ D (out.map (lkd e1 lock) (ao e1 lock))):kJ K F1 H1 (IA (a6 e1 lock) σ) (a6 e1 lock) σ D out:=by
 cases out with
 | nx e=>exact fun σ' H' R' k'=>let ⟨A,B,_⟩:=L.un e σ' H' R' k';q σ' H' A B
 | bk e=>exact fun σ' H' R' k'=>let ⟨A,B,_⟩:=L.un e σ' H' R' k';q σ' H' A B
 | ct e=>exact fun σ' H' R' k'=>let ⟨A,B,_⟩:=L.un e σ' H' R' k';q σ' H' A B
 | rt rv e =>
  intro v σ' H' R' k' r;obtain ⟨A,B,C⟩:=L.un e σ' H' R' k';refine q v σ' H' A B ?_;cases hl:lkd e1 lock with
  | true=>exact r.Cb.unl (fun d z=>by cases rv <;> cases z) C
  | false =>
   obtain ⟨rfl,h1,h2⟩:=hno hl;rw [h1] at r;rw [h2];have:rv.soft false=rv:=by cases rv <;> rfl
   rw [this];exact r.aP R1
theorem Eh {i:Nat} {it:XI} {b:XS} (ii:SI K ga gd it) (ib:SS K ga gd b):SS K ga gd (.fr i it b):=by
 intro env out h F0 H₀ I σ H D R q;simp only [dS] at h;split at h
 ·rename_i ds lock e1 h1;cases ho:forL (iT i (dS gd b)) ds (a6 e1 lock) with
  | none=>rw [ho] at h;cases h
  | some o =>
   rw [ho] at h;cases h;refine ii _ _ _ _ h1 F0 H₀ I σ H _ R fun J H1 R1 k1 _ hit=>?_;obtain ⟨F1,L,hno⟩:=Lk.of R1 lock;have Rb:=L.rel.rebase;refine qh Rb rfl ?_ ho ?_ (L.out R1 hno (q.from k1.s))
   ·rw [L.ff];obtain ⟨a2,a3⟩:=hit;exact ⟨a2,fun H' hk=>a3 H' fun b o e n=>hk b o e fun z=>n (L.ia b z)⟩
   ·intro d o env' σ' H' x hb R' k' hd D' hD;unfold iT at hb;split at hb
    ·rename_i hf;obtain ⟨R2,k2⟩:=R'.E8 hf hd;exact ib _ _ hb _ _ _ _ H' D' R2 (hD.from k2)
    ·cases hb
 ·cases h
theorem Ad {is:List Nat} {it:XI} {b:XS} (ii:SI K ga gd it) (ib:SS K ga gd b):SS K ga gd (.frT is it b):=by
 intro env out h F0 H₀ I σ H D R q;simp only [dS] at h;split at h
 ·rename_i ds lock e1 h1
  ·obtain ⟨o,ho,e0⟩:=Hs.mp h;subst e0;refine ii _ _ _ _ h1 F0 H₀ I σ H _ R fun J H1 R1 k1 _ hit=>?_;obtain ⟨F1,L,hno⟩:=Lk.of R1 lock;have Rb:=L.rel.rebase;refine qh Rb rfl ?_ ho ?_ (L.out R1 hno (q.from k1.s))
   ·rw [L.ff];obtain ⟨a2,a3⟩:=hit;exact ⟨a2,fun H' hk=>a3 H' fun b o e n=>hk b o e fun z=>n (L.ia b z)⟩
   ·intro d o env' σ' H' x hb R' k' hd D' hD;unfold fZ at hb;split at hb
    ·rename_i xs;split at hb
     ·rename_i e2 hset;obtain ⟨a,vs,rfl,l,z,r⟩:=hd;have hlen:∀ {is:List Nat} {ds:List PyData} {e e':En},d7 e is ds=some e'->is.length=ds.length:=by
       intro is;induction is with
       | nil=>intro ds e e' h;cases ds with
        | nil=>rfl
        | cons _ _=>cases h
       | cons i is ih=>intro ds e e' h;cases ds with
        | nil=>cases h
        | cons d ds =>
         unfold d7 at h;split at h
         ·rw [Hx,Hx,ih h]
         ·cases h
      exact ⟨a,vs,rfl,l,by rw [r.len,hlen hset],lR hset R' r fun σ2 R2 k2=>ib _ _ hb _ _ _ _ H' D' R2 (hD.from k2)⟩
     ·cases hb
    ·cases hb
 ·cases h
theorem sS (hg:∀ g d,gd[g]?=some d->∀ F H,Dm K F H d (ga g)):∀ s:XS,SS K ga gd s
 | .skip=>fun env out h F0 H₀ I σ H D R q=>by cases h;exact q σ H R (KpS.refl _ _)
 | .seq a b=>A3 (sS hg a) (sS hg b)
 | .cM i e=>wk (sE hg e) | .oM i e=>wB (sE hg e) | .ym is e=>wF (sE hg e) | .drop e=>xr (sE hg e) | .ret e=>A5 (sE hg e)
 | .BR=>fun env out h F0 H₀ I σ H D R q=>by cases h;exact q .non σ H R (KpS.refl _ _) rfl
 | .ifs c a b=>zG (sT hg c) (sS hg a) (sS hg b)
 | .fr i it b=>Eh (sI hg it) (sS hg b) | .frT is it b=>Ad (sI hg it) (sS hg b) | .wh n c b=>DE (sT hg c) (sS hg b)
 | .brk=>fun env out h F0 H₀ I σ H D R q=>by cases h;exact q σ H R (KpS.refl _ _)
 | .cnt=>fun env out h F0 H₀ I σ H D R q=>by cases h;exact q σ H R (KpS.refl _ _)
 | .nev=>fun env out h F0 H₀ I σ H D R q=>by cases h
 | .sto m i k e=>Bp (sE hg k) (sE hg e)
end
open PySem
section
variable {K:Fg} {F F' G I I' F0:Addr->Prop} {H H' H₀ H1:Hp} {env env' e1:En} {σ σ':St} {ga:Nat->V} {gd:List PyData}
theorem bM:∀ {ms:List PM} {ds:List PyData} {n:Nat},ds.length=ms.length->ms.length<=n->(ag ms ds n).length=n
 | [],[],n,_,_=>by simp [ag]
 | [],_ :: _,n,h,_=>by cases h
 | _ :: _,[],n,h,_=>by cases h
 | m :: ms,d :: ds,n,h,hn=>by
  have ih:=bM (ms:=ms) (ds:=ds) (n:=n - 1) (by simpa using h) (by simp at hn;omega);simp at hn;cases m <;> (simp only [ag,Hx,ih];omega)
theorem bh.len:∀ {ms:List PM} {ds:List PyData} {vs:List V} {is:List Addr},bh K G I H ms ds vs is->ds.length=ms.length/\vs.length=ms.length
 | [],[],[],_,_=>⟨rfl,rfl⟩
 | [],[],_ :: _,_,h=>by exact absurd h id
 | [],_ :: _,_,_,h=>by exact absurd h id
 | m :: ms,[],_,_,h=>by cases m <;> exact absurd h id
 | m :: ms,d :: ds,[],_,h=>by cases m <;> exact absurd h id
 | .dat :: ms,d :: ds,v :: vs,is,h=>by obtain ⟨a,b⟩:=bh.len h.2;exact ⟨by simp [a],by simp [b]⟩
 | .bor :: ms,d :: ds,v :: vs,is,h=>by obtain ⟨a,b⟩:=bh.len h.2;exact ⟨by simp [a],by simp [b]⟩
 | .ino :: ms,d :: ds,v :: vs,is,h=>by obtain ⟨_,_,_,_,_,_,_,h⟩:=h;obtain ⟨a,b⟩:=bh.len h;exact ⟨by simp [a],by simp [b]⟩
def At (K:Fg) (G I:Addr->Prop) (H:Hp) (is:List Addr) (s:Sl) (x:Option V):Prop:=match s with
 | .un=>True
 | .dat d=>∃ v,x=some v/\Dm K G H d v
 | .ino d=>∃ a,x=some (.ref a)/\a∈is/\G a/\Top K G H d a
 | .ro d=>∃ a,x=some (.ref a)/\eH K G I H d a
 | .own _=>False
theorem At.more {is is':List Addr} {s:Sl} {x:Option V} (h:At K G I H is s x) (q:∀ a∈is,a∈is'):At K G I H is' s x:=by
 cases s with
 | ino d=>obtain ⟨a,e,m,r⟩:=h;exact ⟨a,e,q a m,r⟩
 | _=>exact h
theorem bw:∀ {ms:List PM} {ds:List PyData} {vs:List V} {is:List Addr} {n:Nat} {tl:St},bh K G I H ms ds vs is->∀ {i:Nat} {s:Sl},(ag ms ds n)[i]?=some s->∀ {x:Option V},(vs.map some++tl)[i]?=some x->At K G I H is s x
 | [],[],[],is,n,tl,h,i,s,e,x,_=>by
  simp only [ag,List.getElem?_replicate] at e;split at e
  ·cases e;trivial
  ·cases e
 | [],[],_ :: _,_,_,_,h,_,_,_,_,_=>by exact absurd h id
 | [],_ :: _,_,_,_,_,h,_,_,_,_,_=>by exact absurd h id
 | m :: ms,[],_,_,_,_,h,_,_,_,_,_=>by cases m <;> exact absurd h id
 | m :: ms,d :: ds,[],_,_,_,h,_,_,_,_,_=>by cases m <;> exact absurd h id
 | .dat :: ms,d :: ds,v :: vs,is,n,tl,h,0,s,e,x,ex=>by
  simp [ag] at e ex;subst e ex;exact ⟨v,rfl,h.1⟩
 | .dat :: ms,d :: ds,v :: vs,is,n,tl,h,i+1,s,e,x,ex=>by
  simp [ag] at e;exact bw h.2 e (by simpa using ex)
 | .bor :: ms,d :: ds,v :: vs,is,n,tl,h,0,s,e,x,ex=>by
  simp [ag] at e ex;subst e ex;have h1:x6 K G I H d v:=h.1;cases d <;> first | exact h1 | exact ⟨v,rfl,h1⟩ | (obtain ⟨a,rfl,r⟩:=h1;exact ⟨a,rfl,r⟩)
 | .bor :: ms,d :: ds,v :: vs,is,n,tl,h,i+1,s,e,x,ex=>by
  simp [ag] at e;exact bw h.2 e (by simpa using ex)
 | .ino :: ms,d :: ds,v :: vs,is,n,tl,h,0,s,e,x,ex=>by
  simp [ag] at e ex;subst e ex;obtain ⟨a,r,rfl,rfl,g,t,_,_⟩:=h;exact ⟨a,rfl,Hu,g,t⟩
 | .ino :: ms,d :: ds,v :: vs,is,n,tl,h,i+1,s,e,x,ex=>by
  simp [ag] at e;obtain ⟨a,r,rfl,rfl,g,t,_,h⟩:=h;exact (bw h e (by simpa using ex)).more fun b hb=>Hm _ hb
theorem jc:∀ {ms:List PM} {ds:List PyData} {vs:List V} {is:List Addr} {n:Nat} {tl:St},bh K G I H ms ds vs is->∀ {i j:Nat} {c c':PyData} {a:Addr},(ag ms ds n)[i]?=some (.ino c)->(ag ms ds n)[j]?=some (.ino c') ->
  (vs.map some++tl)[i]?=some (some (.ref a))->(vs.map some++tl)[j]?=some (some (.ref a))->i=j
 | [],[],[],is,n,tl,h,i,j,c,c',a,e,_,_,_=>by
  simp only [ag,List.getElem?_replicate] at e;split at e <;> cases e
 | [],[],_ :: _,_,_,_,h,_,_,_,_,_,_,_,_,_=>by exact absurd h id
 | [],_ :: _,_,_,_,_,h,_,_,_,_,_,_,_,_,_=>by exact absurd h id
 | m :: ms,[],_,_,_,_,h,_,_,_,_,_,_,_,_,_=>by cases m <;> exact absurd h id
 | m :: ms,d :: ds,[],_,_,_,h,_,_,_,_,_,_,_,_,_=>by cases m <;> exact absurd h id
 | m :: ms,d :: ds,v :: vs,is,n,tl,h,0,0,c,c',a,e,e',s,s'=>rfl
 | m :: ms,d :: ds,v :: vs,is,n,tl,h,i+1,j+1,c,c',a,e,e',s,s'=>by
  have hr:∃ r,bh K G I H ms ds vs r:=by
   cases m with
   | dat=>exact ⟨is,h.2⟩
   | bor=>exact ⟨is,h.2⟩
   | ino=>obtain ⟨_,r,_,_,_,_,_,h⟩:=h;exact ⟨r,h⟩
  obtain ⟨r,hr⟩:=hr;have:i=j:=jc (n:=n - 1) (tl:=tl) hr (by cases m <;> simpa [ag] using e) (by cases m <;> simpa [ag] using e') (by simpa using s) (by simpa using s');rw [this]
 | m :: ms,d :: ds,v :: vs,is,n,tl,h,0,j+1,c,c',a,e,e',s,s'=>by
  cases m with
  | dat=>simp [ag] at e
  | bor=>cases d <;> simp [ag,xB] at e
  | ino =>
   obtain ⟨b,r,rfl,rfl,g,t,nr,h⟩:=h;simp [ag] at e' s;subst s;obtain ⟨a',ea,m',_⟩:=bw (tl:=tl) h e' (by simpa using s');cases ea;exact absurd m' nr
 | m :: ms,d :: ds,v :: vs,is,n,tl,h,i+1,0,c,c',a,e,e',s,s'=>by
  cases m with
  | dat=>simp [ag] at e'
  | bor=>cases d <;> simp [ag,xB] at e'
  | ino =>
   obtain ⟨b,r,rfl,rfl,g,t,nr,h⟩:=h;simp [ag] at e s';subst s';obtain ⟨a',ea,m',_⟩:=bw (tl:=tl) h e (by simpa using s);cases ea;exact absurd m' nr
theorem eT {G':Addr->Prop}:∀ {ms:List PM} {ds:List PyData} {vs:List V} {is:List Addr} {n:Nat} {tl:St} {env':En} {σ':St} {outs:List PyData},bh K G I H ms ds vs is->ms.length<=env'.length ->
  (∀ (i:Nat) (c:PyData),(ag ms ds n)[i]?=some (.ino c)->∃ c',env'[i]?=some (.ino c')/\σ'[i]?=(vs.map some++tl)[i]?)->(∀ (i:Nat) (c:PyData) (a:Addr),env'[i]?=some (.ino c)->σ'[i]?=some (some (.ref a))->Top K G' H' c a) ->
  gC ms env'=some outs->gI K G' H' outs is
 | [],[],[],is,n,tl,env',σ',outs,h,_,_,_,e=>by
  rw [show is=[] from h];cases env' <;> (simp only [gC] at e;cases e;trivial)
 | [],[],_ :: _,_,_,_,_,_,_,h,_,_,_,_=>by exact absurd h id
 | [],_ :: _,_,_,_,_,_,_,_,h,_,_,_,_=>by exact absurd h id
 | m :: ms,[],_,_,_,_,_,_,_,h,_,_,_,_=>by cases m <;> exact absurd h id
 | m :: ms,d :: ds,[],_,_,_,_,_,_,h,_,_,_,_=>by cases m <;> exact absurd h id
 | m :: ms,d :: ds,v :: vs,is,n,tl,[],σ',outs,h,hl,h1,h2,e=>by simp at hl
 | m :: ms,d :: ds,v :: vs,is,n,tl,s :: es,σ',outs,h,hl,h1,h2,e=>by
  have hl':ms.length<=es.length:=by simpa using hl
  have t1:∀ (i:Nat) (c:PyData),(ag ms ds (n - 1))[i]?=some (.ino c)->∃ c',es[i]?=some (.ino c')/\σ'.tail[i]?=(vs.map some++tl)[i]?:=fun i c z=>by
   obtain ⟨c',e',q⟩:=h1 (i+1) c (by cases m <;> simpa [ag] using z);exact ⟨c',by simpa using e',by simpa using q⟩
  have t2:∀ (i:Nat) (c:PyData) (a:Addr),es[i]?=some (.ino c)->σ'.tail[i]?=some (some (.ref a))->Top K G' H' c a:=fun i c a z q=>h2 (i+1) c a (by simpa using z) (by simpa using q);cases m with
  | dat=>exact eT h.2 hl' t1 t2 (by simpa [gC] using e)
  | bor=>exact eT h.2 hl' t1 t2 (by simpa [gC] using e)
  | ino =>
   obtain ⟨b,r,rfl,rfl,g,t,nr,h⟩:=h;obtain ⟨c',e',q⟩:=h1 0 d (by simp [ag]);simp at e' q;subst e';simp only [gC] at e;split at e
   ·rename_i os ho;cases e;exact ⟨h2 0 c' b (by simp) (by simpa using q),eT h hl' t1 t2 ho⟩
   ·cases e
theorem xU (hg:∀ g d,gd[g]?=some d->∀ F H,Dm K F H d (ga g)) {ms:List PM} {N:List Str} {b:XS} {vs:List V} {H:Hp} {Q:VK} {E:XK} (h:bz (bI gd ms N.length b) K vs H Q E) (hn:ms.length<=N.length) :
  rS K ga b { nx:=fun _ H'=>Q .non H',rt:=Q } (start N vs) H:=by
 obtain ⟨G,ds,is,pr,outs,hF,ha,hd,post⟩:=h;have ha:bh K G (·∈is) H ms ds vs is:=ha;obtain ⟨hl1,hl2⟩:=ha.len;have hstart:start N vs=vs.map some++List.replicate (N.length - vs.length) none:=rfl;have no:noOwn (ag ms ds N.length):=fun i d e=>by
  have hi:i < (ag ms ds N.length).length:=(Hd.mp e).1;rw [bM hl1 hn] at hi;have hx:(vs.map some++List.replicate (N.length - vs.length) none)[i]?=some ((vs.map some++List.replicate (N.length - vs.length) none)[i]'(by rw [Hq,Hb,JM];omega)):=Hc _;exact (bw ha e hx:False)
 have at':∀ {i:Nat} {s:Sl},(ag ms ds N.length)[i]?=some s->∃ x,(start N vs)[i]?=some x/\At K G (·∈is) H is s x:=fun {i s} e=>by
  have hi:i < (ag ms ds N.length).length:=(Hd.mp e).1;rw [bM hl1 hn] at hi;have hx:(start N vs)[i]?=some ((start N vs)[i]'(by rw [hstart,Hq,Hb,JM];omega)):=Hc _;exact ⟨_,hx,bw ha e hx⟩
 have eF:FF G (ag ms ds N.length) (start N vs)=G:=bV no;have muI:∀ i,mu (ag ms ds N.length) i->∃ c,(ag ms ds N.length)[i]?=some (.ino c):=fun i ⟨c,m⟩=>m.elim (fun z=>absurd z (no i c)) fun z=>⟨c,z⟩;have R:Rel K G H (·∈is) (ag ms ds N.length) (start N vs) H:=by
  refine ⟨by rw [bM hl1 hn,hstart,Hq,Hb,JM];omega,fun i d e=>?_,fun i d e=>absurd e (no i d),fun i d e=>?_,fun i d e=>?_,fun i j a h1 h2 h3 h4=>?_,hd,fun _ _ h _=>h⟩
  ·rw [eF];obtain ⟨x,hx,v,rfl,r⟩:=at' e;exact ⟨v,hx,r⟩
  ·rw [eF];obtain ⟨x,hx,a,rfl,m,g,t⟩:=at' e;exact ⟨a,hx,g,m,t⟩
  ·rw [eF];obtain ⟨x,hx,a,rfl,r⟩:=at' e;refine ⟨a,hx,r.pr Pr.refl (fun _ z=>z) (fun b hb=>?_) fun _ _ z _=>z⟩;obtain ⟨j,m,s⟩:=hb;obtain ⟨c,m⟩:=muI j m;obtain ⟨x,hx,a,rfl,m,g,t⟩:=at' m;rw [s] at hx;cases hx;exact m
  ·obtain ⟨c,m1⟩:=muI i h1;obtain ⟨c',m2⟩:=muI j h2;exact jc ha m1 m2 h3 h4
 simp only [bI] at hF;rw [Ht hl1] at hF
 ·have inoK:∀ {env':En} {σ':St},KpS (ag ms ds N.length) (start N vs) env' σ'->∀ (i:Nat) (c:PyData),(ag ms ds N.length)[i]?=some (.ino c)->∃ c',env'[i]?=some (.ino c')/\σ'[i]?=(vs.map some++List.replicate (N.length - vs.length) none)[i]?:=fun {env' σ'} k i c e=>by
   obtain ⟨s',e',v,w⟩:=k.2 i _ e;obtain ⟨c',rfl⟩:=v;exact ⟨c',e',w trivial⟩
  have hlE:∀ {env':En} {σ':St},KpS (ag ms ds N.length) (start N vs) env' σ'->ms.length<=env'.length:=fun {env' σ'} k=>by rw [k.1,bM hl1 hn];exact hn
  split at hF
  ·rename_i rv env' hS;split at hF
   ·rename_i pr' outs' hpr houts;cases hF;refine sS hg b _ _ hS G H (·∈is) _ H _ R fun v σ' H' R' k' r'=>?_;have mono:∀ b,G b->FF G env' σ' b:=fun b z=>.inl z;cases rv with
    | bor i=>cases hpr
    | dat d =>
     cases hpr
     exact post v H' (fun b o e n=>R'.cj b o e n) ⟨Dm.mono mono r',eT ha (hlE k') (inoK k') (fun i c a e s=>by
      obtain ⟨a',s',_,_,t⟩:=R'.ino i c e;rw [s] at s';cases s'
      exact t.pr Pr.refl mono fun _ z=>z) houts⟩
    | frs d =>
     cases hpr;obtain ⟨a,rfl,Ra,t,w,nF,hino,_⟩:=r';have mono':∀ b,(G b\/b=a)->FF (fun b=>G b\/b=a) env' σ' b:=fun b z=>.inl z
     refine post _ H' (fun b o e n=>R'.cj b o e n) ⟨a,rfl,?_,t.pr Pr.refl (fun b z=>z.imp (mono b) id) (fun _ z=>z),eT ha (hlE k') (inoK k') (fun i c a' e s=>by
      obtain ⟨a2,s',_,_,t'⟩:=Ra.ino i c e;rw [s] at s';cases s'
      exact t'.pr Pr.refl mono' fun _ z=>z) houts⟩
     rcases w with w | w
     ·exact w
     ·-- it would be one that was handed in to be changed
      exfalso;have key:∀ {ms:List PM} {ds:List PyData} {vs:List V} {is:List Addr} {I:Addr->Prop} {n:Nat} {tl:St},bh K G I H ms ds vs is->a∈is->∃ (i:Nat) (c:PyData),(ag ms ds n)[i]?=some (.ino c)/\(vs.map some++tl)[i]?=some (some (.ref a)):=by
       intro ms;induction ms with
       | nil =>
        intro ds vs is I n tl h m;cases ds with
        | cons _ _=>exact absurd h id
        | nil=>cases vs with
         | cons _ _=>exact absurd h id
         | nil=>rw [show is=[] from h] at m;cases m
       | cons p ms ih =>
        intro ds vs is I n tl h m;cases ds with
        | nil=>cases p <;> exact absurd h id
        | cons d ds =>
         cases vs with
         | nil=>cases p <;> exact absurd h id
         | cons v vs =>
          cases p with
          | dat=>obtain ⟨i,c,e,s⟩:=ih (n:=n - 1) (tl:=tl) h.2 m;exact ⟨i+1,c,by simpa [ag] using e,by simpa using s⟩
          | bor=>obtain ⟨i,c,e,s⟩:=ih (n:=n - 1) (tl:=tl) h.2 m;exact ⟨i+1,c,by simpa [ag] using e,by simpa using s⟩
          | ino =>
           obtain ⟨b,r,rfl,rfl,g,t,nr,h⟩:=h;rcases Hz.mp m with rfl | m
           ·exact ⟨0,d,by simp [ag],by simp⟩
           ·obtain ⟨i,c,e,s⟩:=ih (n:=n - 1) (tl:=tl) h m;exact ⟨i+1,c,by simpa [ag] using e,by simpa using s⟩
      obtain ⟨i,c,e,s⟩:=key (n:=N.length) (tl:=List.replicate (N.length - vs.length) none) ha w;obtain ⟨c',e',s'⟩:=inoK k' i c e;exact hino i c' e' (s'.trans s)
   ·cases hF
  ·rename_i env' hS;split at hF
   ·rename_i outs' houts;cases hF;refine sS hg b _ _ hS G H (·∈is) _ H _ R fun σ' H' R' k'=>?_;have mono:∀ b,G b->FF G env' σ' b:=fun b z=>.inl z
    exact post .non H' (fun b o e n=>R'.cj b o e n) ⟨rfl,eT ha (hlE k') (inoK k') (fun i c a e s=>by
      obtain ⟨a',s',_,_,t⟩:=R'.ino i c e;rw [s] at s';cases s'
      exact t.pr Pr.refl mono fun _ z=>z) houts⟩
   ·cases hF
  ·cases hF
theorem uf {f:Fn} {vs:List V} {H:Hp} {Q:VK} {E:XK} (h:bz f K vs H Q E):vs.length=f.ms.length:=by
 obtain ⟨G,ds,is,pr,outs,_,ha,_⟩:=h;exact ha.len.2
end
open PySem PySem.Spec PyProof.Rows
noncomputable def Prm.two (r:Fg->R2) (f:PyData->PyData->Option PR) (ok:∀ (K:Fg) (F:Addr->Prop) (H:Hp) (x y:PyData) (u v:V) (pr:PR) (Q:VK),f x y=some pr->Vw K F H x u->Vw K F H y v->(∀ b,F b->H b≠none)->(∀ w H',ax H H'->vQ K F H H' pr w->Q w H')->r K u v H Q):Prm where
 r:=fun K vs H Q=>match vs with | [u,v]=>r K u v H Q | _=>False
 f:=fun ds=>match ds with | [x,y]=>f x y | _=>none
 ok:=fun K F H ds vs pr Q hf hv hd q=>by
  match ds,hf with
  | [x,y],hf =>
   obtain ⟨u,r1,rfl,h1,v,r2,rfl,h2,rfl⟩:=hv;exact ok K F H x y u v pr Q hf h1 h2 hd q
noncomputable def Prm.one (r:Fg->V->Hp->VK->Prop) (f:PyData->Option PR) (ok:∀ (K:Fg) (F:Addr->Prop) (H:Hp) (x:PyData) (u:V) (pr:PR) (Q:VK),f x=some pr->Vw K F H x u->(∀ b,F b->H b≠none)->(∀ w H',ax H H'->vQ K F H H' pr w->Q w H')->r K u H Q):Prm where
 r:=fun K vs H Q=>match vs with | [u]=>r K u H Q | _=>False
 f:=fun ds=>match ds with | [x]=>f x | _=>none
 ok:=fun K F H ds vs pr Q hf hv hd q=>by
  match ds,hf with
  | [x],hf =>
   obtain ⟨u,r1,rfl,h1,rfl⟩:=hv;exact ok K F H x u pr Q hf h1 hd q
section
variable {K:Fg} {F F':Addr->Prop} {H:Hp}
theorem vInt {i:Int} {v:V} (h:Vw K F H (.int i) v):v=.int i:=h
theorem vBl {b:Bool} {v:V} (h:Vw K F H (.bool b) v):v=.bl b:=h
theorem FT {v:V} (h:Vw K F H .none v):v=.non:=h
theorem vStr {x:Str} {v:V} (h:Vw K F H (.str x) v):v=.str x/\x.length<=sizeLine/\PyData.strOk x=true:=h
theorem mh {ds:List PyData} {v:V} (h:Vw K F H (.list ds) v):∃ a xs,v=.ref a/\SqL K H a xs/\xs.length<=sizeLine/\DmL K F H ds xs:=let ⟨a,e,xs,r⟩:=h;⟨a,xs,e,r⟩
theorem uR {ds:List PyData} {v:V} (h:Vw K F H (.tuple ds) v):∃ a xs,v=.ref a/\SqT K H a xs/\xs.length<=sizeLine/\DmL K F H ds xs:=h
theorem D3 {p:Addr} {xs:List V} {ds:List PyData} (hp:H p=none) (hz:xs.length<=sizeLine) (h:DmL K F H ds xs):vQ K F H (upd H p (.lst xs)) (.frs (.list ds)) (.ref p) :=
 ⟨p,rfl,hp,xs,ah,hz,(h.fresh hp).pr (Pr.of_same (ax.nw _ hp)) fun _ z=>z⟩
theorem Ef {p:Addr} {xs:List V} {ds:List PyData} (hp:H p=none) (hz:xs.length<=sizeLine) (h:DmL K F H ds xs):vQ K F H (upd H p (.tup xs)) (.dat (.tuple ds)) (.ref p) :=
 ⟨p,xs,rfl,.inl (.inl ah),hz,h.pr (Pr.of_same (ax.nw _ hp)) fun _ z=>z⟩
end
noncomputable def Fx:PyData->PyData->Option PR
 | .int i,.int j=>some (.dat (.int (i+j)))
 | .str x,.str y=>if x.length+y.length<=sizeLine then some (.dat (.str (x++y))) else none
 | .list xs,.list ys=>if xs.length+ys.length<=sizeLine then some (.frs (.list (xs++ys))) else none
 | .tuple (x :: xs),.tuple ys=>if (x :: xs).length+ys.length<=sizeLine then some (.dat (.tuple ((x :: xs)++ys))) else none
 | _,_=>none
def Cn (K:Fg):R2:=rOr (rI0 fun i j=>.int (i+j)) (rOr y7 (rOr (zV K) (zy K)))
theorem gm (x y:Str):(x++y).length=x.length+y.length:=by
 show (x.cps++y.cps).size=_;rw [Array.size_append];rfl
noncomputable def lD:Prm:=Prm.two Cn Fx fun K F H x y u v pr Q hf hx hy hd q=>by
 unfold Fx at hf;split at hf
 ·cases hf;rw [vInt hx,vInt hy];exact .inl ⟨_,_,rfl,rfl,q _ H (ax.rf H) rfl⟩
 ·split at hf
  ·rename_i x y hl;cases hf;obtain ⟨rfl,l1,o1⟩:=vStr hx;obtain ⟨rfl,l2,o2⟩:=vStr hy;exact .inr (.inl ⟨_,_,rfl,rfl,hl,q _ H (ax.rf H) ⟨rfl,by rw [gm];exact hl,kR o1 o2⟩⟩)
  ·cases hf
 ·split at hf
  ·rename_i xs ys hl;cases hf;obtain ⟨a,us,rfl,s1,z1,d1⟩:=mh hx;obtain ⟨b,ws,rfl,s2,z2,d2⟩:=mh hy;have hl':us.length+ws.length<=sizeLine:=by rw [d1.len,d2.len];exact hl
   exact .inr (.inr (.inl ⟨a,b,us,ws,rfl,rfl,s1,s2,hl',fun p hp=>q _ _ (ax.nw _ hp) (D3 hp (by rw [Hq];exact hl') (d1.app d2))⟩))
  ·cases hf
 ·split at hf
  ·rename_i x xs ys hl;cases hf;obtain ⟨a,us,rfl,s1,z1,d1⟩:=uR hx;obtain ⟨b,ws,rfl,s2,z2,d2⟩:=uR hy;have hl':us.length+ws.length<=sizeLine:=by rw [d1.len,d2.len];exact hl
   have hne:us≠[]:=fun z=>by rw [z] at d1;obtain ⟨v,r,e,_⟩:=d1;cases e
   refine .inr (.inr (.inr ⟨a,b,us,ws,rfl,rfl,s1,s2,hne,hl',fun z=>?_,fun z p hp=>q _ _ (ax.nw _ hp) (Ef hp (by rw [Hq];exact hl') (d1.app d2))⟩));subst z;have hys:ys=[]:=by
    cases ys with
    | nil=>rfl
    | cons y ys=>obtain ⟨v,r,e,_⟩:=d2;cases e
   subst hys;exact q _ H (ax.rf H) ⟨a,us,rfl,s1,z1,by rw [JK];exact d1⟩
  ·cases hf
 ·cases hf
theorem bc {X:Cx}:OpR X (binaryOp .Add) (fun x y=>lD.r X.K [x,y]):=orR BE (orR xN (orR xG yg))
noncomputable def yu (c:Int->Int->Bool) (g:Int->Int->PyData):PyData->PyData->Option PR
 | .int i,.int j=>if c i j=true then some (.dat (g i j)) else none
 | _,_=>none
noncomputable def Prm.ints (C:Int->Int->Prop) (c:Int->Int->Bool) (hc:∀ i j,c i j=true->C i j) (g:Int->Int->Int):Prm:=Prm.two (fun _=>rI C fun i j=>.int (g i j)) (yu c fun i j=>.int (g i j)) fun K F H x y u v pr Q hf hx hy hd q=>by
 unfold yu at hf;split at hf
 ·split at hf
  ·rename_i h;cases hf;rw [vInt hx,vInt hy];exact ⟨_,_,rfl,rfl,hc _ _ h,q _ H (ax.rf H) rfl⟩
  ·cases hf
 ·cases hf
noncomputable def Prm.Ae (g:Int->Int->Bool):Prm:=Prm.two (fun _=>rI0 fun i j=>.bl (g i j)) (yu (fun _ _=>true) fun i j=>.bool (g i j)) fun K F H x y u v pr Q hf hx hy hd q=>by
 unfold yu at hf;split at hf
 ·rw [Ht rfl] at hf;cases hf;rw [vInt hx,vInt hy];exact ⟨_,_,rfl,rfl,q _ H (ax.rf H) rfl⟩
 ·cases hf
noncomputable def BX:Prm:=Prm.two (fun _=>rI0 fun i j=>.int (i - j)) (yu (fun _ _=>true) fun i j=>.int (i - j)) fun K F H x y u v pr Q hf hx hy hd q=>by
 unfold yu at hf;split at hf
 ·rw [Ht rfl] at hf;cases hf;rw [vInt hx,vInt hy];exact ⟨_,_,rfl,rfl,q _ H (ax.rf H) rfl⟩
 ·cases hf
theorem mB {X:Cx}:OpR X (binaryOp .Sub) (fun x y=>BX.r X.K [x,y]):=Ao
noncomputable def mulC (i j:Int):Bool:=(decide (-(2 ^ 64) < i)&&decide (i < 2 ^ 64))||(decide (-(2 ^ 64) < j)&&decide (j < 2 ^ 64))
noncomputable def vW:Prm:=Prm.ints Ay mulC (fun i j h=>by simpa [mulC,Ay,Bool.or_eq_true,HN,Jp] using h) (fun i j=>i*j)
theorem e7 {X:Cx}:OpR X (binaryOp .Mult) (fun x y=>vW.r X.K [x,y]):=yH
noncomputable def uk:Prm:=Prm.ints (fun _ j=>0 < j) (fun _ j=>decide (0 < j)) (fun i j h=>by simpa using h) (fun i j=>i % j)
theorem cG {X:Cx}:OpR X (binaryOp .Mod) (fun x y=>uk.r X.K [x,y]):=zf
noncomputable def yi:Prm:=Prm.ints (fun _ j=>0 < j/\j.natAbs.log2 < 9000) (fun _ j=>decide (0 < j)&&decide (j < 2 ^ 200)) (fun i j h=>by
 simp only [HN,Jp] at h;refine ⟨h.1,?_⟩;have hz:j.natAbs≠0:=by omega
 have:j.natAbs < 2 ^ 200:=by omega
 exact Hy ((Nat.log2_lt hz).mpr this) (by decide)) (fun i j=>i / j)
theorem nI {X:Cx}:OpR X (binaryOp .FloorDiv) (fun x y=>yi.r X.K [x,y]):=tX
noncomputable def Dx:Prm:=Prm.ints FJ (fun i j=>decide (0<=j)&&decide (j<=1000000)&&decide (i.natAbs < 2 ^ 64)) (fun i j h=>by simp only [HN,Jp] at h;exact ⟨h.1.1,h.1.2,h.2⟩) (fun i j=>i ^ j.toNat)
theorem rO {X:Cx}:OpR X (binaryOp .Pow) (fun x y=>Dx.r X.K [x,y]):=y0
noncomputable def GY:Prm:=Prm.one (fun _=>rU fun i=>.int (-i)) (fun x=>match x with | .int i=>some (.dat (.int (-i))) | _=>none) fun K F H x u pr Q hf hx hd q=>by
 split at hf
 ·cases hf;rw [vInt hx];exact ⟨_,rfl,q _ H (ax.rf H) rfl⟩
 ·cases hf
noncomputable def yY (g:Int->Int->Bool) (h:Str->Str->Bool):PyData->PyData->Option PR
 | .int i,.int j=>some (.dat (.bool (g i j)))
 | .str x,.str y=>some (.dat (.bool (h x y)))
 | _,_=>none
noncomputable def ltS (x y:Str):Bool:=decide (x.cps.toList < y.cps.toList)
noncomputable def leS (x y:Str):Bool:=!decide (y.cps.toList < x.cps.toList)
noncomputable def ltP:Prm:=Prm.two (fun _=>rOr (rI0 fun i j=>.bl (decide (i < j))) Em) (yY (fun i j=>decide (i < j)) ltS) fun K F H x y u v pr Q hf hx hy hd q=>by
 unfold yY at hf;split at hf
 ·cases hf;rw [vInt hx,vInt hy];exact .inl ⟨_,_,rfl,rfl,q _ H (ax.rf H) rfl⟩
 ·cases hf;rw [(vStr hx).1,(vStr hy).1];exact .inr ⟨_,_,rfl,rfl,q _ H (ax.rf H) rfl⟩
 ·cases hf
theorem kK {X:Cx}:OpR X (compareOp .Lt) (fun x y=>ltP.r X.K [x,y]):=orR EG z5
noncomputable def leP:Prm:=Prm.two (fun _=>rOr (rI0 fun i j=>.bl (decide (i<=j))) FU) (yY (fun i j=>decide (i<=j)) leS) fun K F H x y u v pr Q hf hx hy hd q=>by
 unfold yY at hf;split at hf
 ·cases hf;rw [vInt hx,vInt hy];exact .inl ⟨_,_,rfl,rfl,q _ H (ax.rf H) rfl⟩
 ·cases hf;rw [(vStr hx).1,(vStr hy).1];exact .inr ⟨_,_,rfl,rfl,q _ H (ax.rf H) rfl⟩
 ·cases hf
theorem kY {X:Cx}:OpR X (compareOp .LtE) (fun x y=>leP.r X.K [x,y]):=orR EZ AQ
noncomputable def gtP:Prm:=Prm.Ae fun i j=>decide (i > j)
theorem k0 {X:Cx}:OpR X (compareOp .Gt) (fun x y=>gtP.r X.K [x,y]):=CS
noncomputable def geP:Prm:=Prm.Ae fun i j=>decide (i>=j)
theorem yA {X:Cx}:OpR X (compareOp .GtE) (fun x y=>geP.r X.K [x,y]):=Et
mutual
noncomputable def noD:PyData->Bool
 | .dict _=>false
 | .list xs=>dG xs
 | .tuple xs=>dG xs
 | _=>true
noncomputable def dG:List PyData->Bool
 | []=>true
 | x :: xs=>noD x&&dG xs
end
section
variable {K:Fg} {F:Addr->Prop} {H:Hp}
mutual
theorem Dm.lay:∀ {d:PyData} {v:V},Dm K F H d v->noD d=true->d.canLay0=true
 | .none,v,h,_=>by simp [PyData.canLay0]
 | .bool b,v,h,_=>by simp [PyData.canLay0]
 | .int i,v,h,_=>by simp [PyData.canLay0]
 | .str x,v,h,_=>by simpa [PyData.canLay0] using h.2.2
 | .list ds,v,h,n=>by obtain ⟨a,xs,e,l,z,r⟩:=h;simpa [PyData.canLay0] using DmL.lay r (by simpa [noD] using n)
 | .tuple ds,v,h,n=>by obtain ⟨a,xs,e,l,z,r⟩:=h;simpa [PyData.canLay0] using DmL.lay r (by simpa [noD] using n)
 | .dict kvs,v,h,n=>by simp [noD] at n
theorem DmL.lay:∀ {ds:List PyData} {vs:List V},DmL K F H ds vs->dG ds=true->PyData.canLayAll0 ds=true
 | [],vs,h,_=>by simp [PyData.canLayAll0]
 | d :: ds,vs,h,n=>by
  obtain ⟨v,r,e,h1,h2⟩:=h;have n':noD d=true/\dG ds=true:=by simpa [dG] using n
  simp [PyData.canLayAll0,Dm.lay h1 n'.1,DmL.lay h2 n'.2]
end
theorem Vw.lay {d:PyData} {v:V} (h:Vw K F H d v) (n:noD d=true):d.canLay0=true:=by
 cases d with
 | list ds=>obtain ⟨a,xs,e,l,z,r⟩:=mh h;simpa [PyData.canLay0] using DmL.lay r (by simpa [noD] using n)
 | dict ds=>simp [noD] at n
 | _=>exact Dm.lay (K:=K) (F:=F) (H:=H) h n
variable {X:Cx} {pins:List (Addr×Obj)} {σ:St} {s:Shared}
mutual
theorem Dm.reads (I:Inv X pins σ H s):∀ {d:PyData} {v:V} {u:Value},Dm X.K F H d v->noD d=true->RelV v u->∃ as,Reads s.heap u d as
 | .none,v,u,hd,_,r=>by
  have e:v=.non:=hd;subst e;cases (show u=Value.none from r);exact ⟨_,.none⟩
 | .bool b,v,u,hd,_,r=>by
  have e:v=.bl b:=hd;subst e;cases (show u=Value.bool b from r);exact ⟨_,.bool b⟩
 | .int i,v,u,hd,_,r=>by
  have e:v=.int i:=hd;subst e;obtain ⟨t,e⟩:=(show ∃ t,u=Value.int i t from r);subst e;exact ⟨_,.int i t⟩
 | .str y,v,u,hd,_,r=>by
  have e:v=.str y:=hd.1;subst e;obtain ⟨t,e⟩:=(show ∃ t,u=Value.str y t from r);subst e;exact ⟨_,.str y t⟩
 | .list ds,v,u,hd,n,r=>by
  obtain ⟨a,xs,e,l,z,rs⟩:=hd;subst e;cases (show u=Value.ref a from r);obtain ⟨its,rv,⟨o,k,h1,h2,h3,h4⟩,_⟩:=I.list (l.elim (fun q=>.inl q.2) .inr);obtain ⟨as,ra⟩:=DmL.reads I rs (by simpa [noD] using n) rv;exact ⟨_,.list h1 h2 h4 (by simpa using ra)⟩
 | .tuple ds,v,u,hd,n,r=>by
  obtain ⟨a,xs,e,l,z,rs⟩:=hd;subst e;cases (show u=Value.ref a from r);obtain ⟨its,rv,⟨o,h1,h2,k,h4⟩,_⟩:=I.tuple l;obtain ⟨as,ra⟩:=DmL.reads I rs (by simpa [noD] using n) rv;exact ⟨_,.tuple h1 h2 h4 (by simpa using ra)⟩
 | .dict kvs,v,u,hd,n,r=>by simp [noD] at n
theorem DmL.reads (I:Inv X pins σ H s):∀ {ds:List PyData} {vs:List V} {us:List Value},DmL X.K F H ds vs->dG ds=true->Vals vs us->∃ as,ReadsAll s.heap us ds as
 | [],vs,us,hd,_,r=>by
  have e:vs=[]:=hd;subst e;cases r;exact ⟨_,.nil⟩
 | d :: ds,vs,us,hd,n,r=>by
  obtain ⟨v,rr,e,h1,h2⟩:=hd;have n':noD d=true/\dG ds=true:=by simpa [dG] using n
  subst e;cases r with
  | cons r1 r2 =>
   obtain ⟨as,q1⟩:=Dm.reads I h1 n'.1 r1;obtain ⟨bs,q2⟩:=DmL.reads I h2 n'.2 r2;exact ⟨_,.cons q1 q2⟩
end
theorem Vw.reads (I:Inv X pins σ H s) {d:PyData} {v:V} {u:Value} (h:Vw X.K F H d v) (n:noD d=true) (r:RelV v u):∃ as,Reads s.heap u d as:=by
 cases d with
 | list ds =>
  obtain ⟨a,xs,rfl,l,z,rs⟩:=mh h;cases (show u=Value.ref a from r);obtain ⟨its,rv,⟨o,k,h1,h2,h3,h4⟩,_⟩:=I.list l;obtain ⟨as,ra⟩:=DmL.reads I rs (by simpa [noD] using n) rv;exact ⟨_,.list h1 h2 h4 (by simpa using ra)⟩
 | dict ds=>simp [noD] at n
 | _=>exact Dm.reads (F:=F) I h n r
end
noncomputable def iB (d:PyData):Bool:=noD d&&decide (d.depth<=64)
def GQ (neg:Bool) (K:Fg):R2:=fun x y H Q=>∃ F d e,Vw K F H d x/\Vw K F H e y/\iB d=true/\iB e=true/\Q (.bl (if neg then !PyData.eqv d e else PyData.eqv d e)) H
noncomputable def eqD (neg:Bool) (d e:PyData):Option PR:=if iB d=true/\iB e=true then some (.dat (.bool (if neg then !PyData.eqv d e else PyData.eqv d e))) else none
noncomputable def B4 (neg:Bool):Prm:=Prm.two (GQ neg) (eqD neg) fun K F H x y u v pr Q hf hx hy hd q=>by
 unfold eqD at hf;split at hf
 ·rename_i h;cases hf;exact ⟨F,x,y,hx,hy,h.1,h.2,q _ H (ax.rf H) rfl⟩
 ·cases hf
noncomputable abbrev eqP:Prm:=B4 false
noncomputable abbrev neP:Prm:=B4 true
theorem dR {K:Fg} {F:Addr->Prop} {H:Hp} {d:PyData} {v:V} (h:Vw K F H d v) (o:iB d=true):SeqAt.shaped d=true:=by
 have o':noD d=true/\d.depth<=64:=by simpa [iB] using o
 simp [SeqAt.shaped,h.lay o'.1,o'.2]
theorem cv {X:Cx} (hu:X.A.units+64 < cLine):OpR X (compareOp .Eq) (fun x y=>eqP.r X.K [x,y]):=by
 intro pins s σ H x y v u Q I rx ry h;obtain ⟨F,d,e,h1,h2,o1,o2,hq⟩:=h;obtain ⟨as,r1⟩:=h1.reads I (by have:=o1;simp [iB] at this;exact this.1) rx;obtain ⟨bs,r2⟩:=h2.reads I (by have:=o2;simp [iB] at this;exact this.1) ry;exact SeqAt.compareEq_shaped r1 r2 (dR h1 o1) (dR h2 o2) hu ⟨.bl _,H,I,rfl,hq⟩
theorem lg {X:Cx} (hu:X.A.units+64 < cLine):OpR X (compareOp .NotEq) (fun x y=>neP.r X.K [x,y]):=by
 intro pins s σ H x y v u Q I rx ry h;obtain ⟨F,d,e,h1,h2,o1,o2,hq⟩:=h;obtain ⟨as,r1⟩:=h1.reads I (by have:=o1;simp [iB] at this;exact this.1) rx;obtain ⟨bs,r2⟩:=h2.reads I (by have:=o2;simp [iB] at this;exact this.1) ry;exact SeqAt.compareNe_shaped r1 r2 (dR h1 o1) (dR h2 o2) hu ⟨.bl _,H,I,rfl,hq⟩
noncomputable def ixD:PyData->PyData->Option PR
 | .list xs,.int i=>(atI xs i).map .dat
 | .tuple xs,.int i=>(atI xs i).map .dat
 | .str x,.int i=>(atI x.cps.toList i).map fun c=>.dat (.str ⟨#[c]⟩)
 | _,_=>none
theorem u9 {K:Fg} {F:Addr->Prop} {H:Hp} {ds:List PyData} {xs:List V} {i:Int} {d:PyData} (h:DmL K F H ds xs) (e:atI ds i=some d):∃ v,atI xs i=some v/\Dm K F H d v:=by
 unfold atI at e ⊢;rw [h.len];cases q:ixN ds.length i with
 | none=>rw [q] at e;cases e
 | some j =>
  rw [q] at e;have e:ds[j]?=some d:=e;exact h.get e
theorem x9 {α:Type} {xs:List α} {i:Int} {x:α} (e:atI xs i=some x):x∈xs:=by
 unfold atI at e;cases q:ixN xs.length i with
 | none=>rw [q] at e;cases e
 | some j=>rw [q] at e;exact HB (show xs[j]?=some x from e)
noncomputable def ixP:Prm:=Prm.two rIx ixD fun K F H x y u v pr Q hf hx hy hd q=>by
 unfold ixD at hf;split at hf
 ·obtain ⟨d,e,rfl⟩:=Hs.mp hf;obtain ⟨a,us,rfl,s1,z1,d1⟩:=mh hx;rw [vInt hy];obtain ⟨v,ev,dv⟩:=u9 d1 e;exact .inl ⟨a,us,_,v,rfl,rfl,s1,ev,q _ H (ax.rf H) dv⟩
 ·obtain ⟨d,e,rfl⟩:=Hs.mp hf;obtain ⟨a,us,rfl,s1,z1,d1⟩:=uR hx;rw [vInt hy];obtain ⟨v,ev,dv⟩:=u9 d1 e;exact .inr (.inl ⟨a,us,_,v,rfl,rfl,s1,ev,q _ H (ax.rf H) dv⟩)
 ·rename_i x i;obtain ⟨c,e,rfl⟩:=Hs.mp hf;obtain ⟨rfl,l1,o1⟩:=vStr hx;rw [vInt hy];have hc:=gF o1 c (x9 e);exact .inr (.inr ⟨_,_,c,rfl,rfl,l1,e,q _ H (ax.rf H) ⟨rfl,by show 1<=sizeLine;decide,by simp [PyData.strOk,hc]⟩⟩)
 ·cases hf
theorem dY {X:Cx}:IxR X (fun x y=>ixP.r X.K [x,y]):=zY
noncomputable def cutD {α:Type} (xs:List α) (lo hi:Option Int):List α:=(xs.drop (HT.sIx xs.length 0 lo)).take (HT.sIx xs.length xs.length hi - HT.sIx xs.length 0 lo)
noncomputable def slD (lo hi:Option Int):PyData->Option PR
 | .list xs=>some (.frs (.list (cutD xs lo hi)))
 | .tuple xs=>if HT.sIx xs.length 0 lo=0/\HT.sIx xs.length xs.length hi=xs.length then none else some (.dat (.tuple (cutD xs lo hi)))
 | .str x=>some (.dat (.str (sN x lo hi)))
 | _=>none
def Fp (K:Fg) (lo hi:Option Int):V->Hp->VK->Prop:=fun x H Q=>E4 Fd (E4 (FL K) (FQ K)) x lo hi H Q
section
variable {K:Fg} {F:Addr->Prop} {H:Hp}
theorem DmL.drop:∀ {ds:List PyData} {xs:List V} (n:Nat),DmL K F H ds xs->DmL K F H (ds.drop n) (xs.drop n)
 | ds,xs,0,h=>h
 | [],xs,n+1,h=>by rw [show xs=[] from h];rfl
 | d :: ds,xs,n+1,h=>by obtain ⟨v,r,rfl,_,h2⟩:=h;exact DmL.drop n h2
theorem DmL.take:∀ {ds:List PyData} {xs:List V} (n:Nat),DmL K F H ds xs->DmL K F H (ds.take n) (xs.take n)
 | ds,xs,0,h=>by rw [List.take_zero,List.take_zero];rfl
 | [],xs,n+1,h=>by rw [show xs=[] from h];rfl
 | d :: ds,xs,n+1,h=>by obtain ⟨v,r,rfl,h1,h2⟩:=h;exact ⟨v,_,rfl,h1,DmL.take n h2⟩
theorem DmL.cut {ds:List PyData} {xs:List V} (lo hi:Option Int) (h:DmL K F H ds xs):DmL K F H (cutD ds lo hi) (sW xs lo hi):=by
 unfold cutD sW;rw [h.len];exact (h.drop _).take _
theorem nB (xs:List V) (lo hi:Option Int):(sW xs lo hi).length<=xs.length:=by
 unfold sW;rw [IJ,Jw];omega
theorem rl {x:Str} (lo hi:Option Int) (h:PyData.strOk x=true):PyData.strOk (sN x lo hi)=true:=by
 have hm:=gF h;unfold PyData.strOk sN;rw [Array.all_eq_true'];intro c hc;have:c∈(x.cps.toList.drop (HT.sIx x.length 0 lo)).take (HT.sIx x.length x.length hi - HT.sIx x.length 0 lo):=by simpa using hc
 have:=hm c (List.mem_of_mem_drop (List.mem_of_mem_take this));simpa using this
theorem E9 {lo hi:Option Int} {x:PyData} {u:V} {pr:PR} {Q:VK} (hf:slD lo hi x=some pr) (hx:Vw K F H x u) (q:∀ w H',ax H H'->vQ K F H H' pr w->Q w H'):Fp K lo hi u H Q:=by
 unfold slD at hf;split at hf
 ·cases hf;obtain ⟨a,us,rfl,s1,z1,d1⟩:=mh hx;exact .inr (.inl ⟨a,us,rfl,s1,fun p hp=>q _ _ (ax.nw _ hp) (D3 hp (HJ (nB _ _ _) z1) (d1.cut lo hi))⟩)
 ·split at hf
  ·cases hf
  rename_i hn;cases hf;obtain ⟨a,us,rfl,s1,z1,d1⟩:=uR hx;exact .inr (.inr ⟨a,us,rfl,s1,by rw [d1.len];exact hn,fun p hp=>q _ _ (ax.nw _ hp) (Ef hp (HJ (nB _ _ _) z1) (d1.cut lo hi))⟩)
 ·cases hf;obtain ⟨rfl,l1,o1⟩:=vStr hx;exact .inl ⟨_,rfl,l1,q _ H (ax.rf H) ⟨rfl,HJ (gO _ _ _) l1,rl lo hi o1⟩⟩
 ·cases hf
end
noncomputable def z6:Prm:=Prm.two (fun K x y H Q=>∃ i,y=.int i/\Fp K none (some i) x H Q) (fun x y=>match y with | .int i=>slD none (some i) x | _=>none) fun K F H x y u v pr Q hf hx hy hd q=>by
 split at hf
 ·exact ⟨_,vInt hy,E9 hf hx q⟩
 ·cases hf
noncomputable def Ft:PyData->Option PR
 | .str x=>some (.dat (.int x.length))
 | .list xs=>some (.dat (.int xs.length))
 | .tuple xs=>some (.dat (.int xs.length))
 | _=>none
noncomputable def iy:Prm:=Prm.one (fun K x=>y8 K [x]) Ft fun K F H x u pr Q hf hx hd q=>by
 unfold Ft at hf;split at hf
 ·cases hf;obtain ⟨rfl,l1,o1⟩:=vStr hx;exact AB l1 (q _ H (ax.rf H) rfl)
 ·cases hf;obtain ⟨a,us,rfl,s1,z1,d1⟩:=mh hx;exact AW s1 (q _ H (ax.rf H) (by rw [d1.len];rfl))
 ·cases hf;obtain ⟨a,us,rfl,s1,z1,d1⟩:=uR hx;exact yT s1 (q _ H (ax.rf H) (by rw [d1.len];rfl))
 ·cases hf
theorem lj {X:Cx} {f:Value} {r:List V->Hp->VK->Prop} {r':V->Hp->VK->Prop} (h:aS X f r) (e:∀ x H Q,r' x H Q->r [x] H Q):aS X f (fun vs H Q=>match vs with | [u]=>r' u H Q | _=>False):=by
 intro pins s σ H xs us Q I rv q
 match xs,q with
 | [x],q=>exact h pins s σ H [x] us Q I rv (e x H Q q)
theorem aE {X:Cx}:aS X (.builtin "len") (iy.r X.K):=lj sD fun _ _ _ h=>h
noncomputable def B3:Prm:=Prm.one (fun _ x=>CI [x]) (fun x=>match x with | .int i=>some (.dat (.int (if i < 0 then -i else i))) | _=>none) fun K F H x u pr Q hf hx hd q=>by
 split at hf
 ·cases hf;rw [vInt hx];exact Ez (q _ H (ax.rf H) rfl)
 ·cases hf
theorem l5 {X:Cx}:aS X (.builtin "abs") (B3.r X.K):=lj ph fun _ _ _ h=>h
noncomputable def FK:Prm:=Prm.one (fun _ x=>yG [x]) (fun x=>match x with | .int i=>some (.dat (.int i)) | .bool k=>some (.dat (.int (if k then 1 else 0))) | _=>none) fun K F H x u pr Q hf hx hd q=>by
 split at hf
 ·cases hf;rw [vInt hx];exact .inl ⟨_,rfl,q _ H (ax.rf H) rfl⟩
 ·cases hf;rw [vBl hx];exact .inr ⟨_,rfl,q _ H (ax.rf H) rfl⟩
 ·cases hf
theorem wD {X:Cx}:aS X (.type "int") (FK.r X.K):=lj pZ fun _ _ _ h=>h
noncomputable def yj (T:String) (x:PyData):Option PR:=match T with
 | "str" => some (.dat (.bool (isS x)))
 | "int" => some (.dat (.bool (isI x)))
 | "bool" => some (.dat (.bool (isB x)))
 | "tuple" => some (.dat (.bool (isT x)))
 | "list" => some (.dat (.bool (isL x)))
 | _=>none
def Dk (T:String) (K:Fg):V->Hp->VK->Prop:=fun x H Q=>∃ F d b,Vw K F H d x/\yj T d=some (.dat (.bool b))/\Q (.bl b) H
theorem E5 {T:String} {d:PyData} {pr:PR} (h:yj T d=some pr):∃ b,pr=.dat (.bool b):=by
 unfold yj at h;split at h <;> first | (cases h;exact ⟨_,rfl⟩) | cases h
noncomputable def jV (T:String):Prm:=Prm.one (Dk T) (yj T) fun K F H x u pr Q hf hx hd q=>by
 obtain ⟨b,rfl⟩:=E5 hf;exact ⟨F,x,b,hx,hf,q _ H (ax.rf H) rfl⟩
theorem xw {K:Fg} {T:String} {d:PyData} {b:Bool} (h:yj T d=some (.dat (.bool b))):PySem.W.kitOne K (.type (tyN d)) (.type T)=some b:=by
 unfold yj at h;split at h
 ·cases h;exact C5 d
 ·cases h;exact DS d
 ·cases h;exact Cg d
 ·cases h;exact Am d
 ·cases h;exact Aa d
 ·cases h
def GJ (K:Fg):List V->Hp->VK->Prop:=fun vs H Q=>match vs with | [x,.ty T]=>(jV T).r K [x] H Q | _=>False
theorem wN {X:Cx}:aS X (.builtin "isinstance") (GJ X.K):=by
 intro pins s σ H xs us Q I r h
 match xs,h with
 | [x,.ty T'],h =>
  obtain ⟨F,d,b,hv,hb,q⟩:=h;obtain ⟨u,w',rfl,r1,r2⟩:=vals2 r;cases (show w'=Value.type T' from r2);have e:=xw (K:=X.K) hb;have fin:∀ tk,EP X pins σ Q (.bool b) { s with toks:=tk }:=fun tk=>⟨.bl b,H,I.tok _,rfl,q⟩;cases d with
  | none=>rw [FT hv] at r1;cases (show u=Value.none from r1);exact IV PySem.W.kitx_none I.kIn True.intro e (fun z=>nomatch z) fin
  | bool y=>rw [vBl hv] at r1;cases (show u=Value.bool y from r1);exact IV PySem.W.kitx_bool I.kIn True.intro e (fun z=>nomatch z) fin
  | int i=>rw [vInt hv] at r1;obtain ⟨t,q⟩:=(show ∃ t,u=Value.int i t from r1);cases q;exact IV PySem.W.kitx_int I.kIn True.intro e (fun z=>nomatch z) fin
  | str y=>rw [(vStr hv).1] at r1;obtain ⟨t,q⟩:=(show ∃ t,u=Value.str y t from r1);cases q;exact IV PySem.W.kitx_str I.kIn True.intro e (fun z=>nomatch z) fin
  | list ds =>
   obtain ⟨a,xs,rfl,l,z,rs⟩:=mh hv;cases (show u=Value.ref a from r1);obtain ⟨its,rv,⟨o,k,h1,h2,h3,h4⟩,_⟩:=I.list l;exact IV PySem.W.kitx_list I.kIn ⟨o,h1,h2⟩ e (fun z=>nomatch z) fin
  | tuple ds =>
   obtain ⟨a,xs,rfl,l,z,rs⟩:=uR hv;cases (show u=Value.ref a from r1);obtain ⟨its,rv,⟨o,h1,h2,k,h4⟩,_⟩:=I.tuple l;exact IV PySem.W.kitx_tuple I.kIn ⟨o,h1,h2⟩ e (fun z=>nomatch z) fin
  | dict ds =>
   obtain ⟨a,rfl,ep,xs,ea,_⟩:=hv;cases (show u=Value.ref a from r1);obtain ⟨_,_,_,o,es,h1,h2,_⟩:=(show aR X.prog X.w H s.heap a (.dD ep xs) from I.hok a _ ea);exact IV PySem.W.kitx_dict I.kIn ⟨o,h1,h2.1⟩ e (fun z=>nomatch z) fin
noncomputable def vC:PyData->Option PR
 | .list xs=>some (.dat (.tuple xs))
 | .tuple xs=>some (.dat (.tuple xs))
 | _=>none
noncomputable def qV:Prm:=Prm.one (fun K x=>u6 K [x]) vC fun K F H x u pr Q hf hx hd q=>by
 unfold vC at hf;split at hf
 ·cases hf;obtain ⟨a,us,rfl,s1,z1,d1⟩:=mh hx;exact ⟨a,us,rfl,.inl ⟨s1,fun p hp=>q _ _ (ax.nw _ hp) (Ef hp z1 d1)⟩⟩
 ·cases hf;obtain ⟨a,us,rfl,s1,z1,d1⟩:=uR hx;exact ⟨a,us,rfl,.inr ⟨s1,q _ H (ax.rf H) ⟨a,us,rfl,s1,z1,d1⟩⟩⟩
 ·cases hf
theorem j7 {X:Cx}:aS X (.type "tuple") (qV.r X.K):=lj mC fun _ _ _ h=>h
theorem uA (s:String):PyData.strOk (Str.ofString s)=true:=by
 rw [Str.ofString_eq_toList];unfold PyData.strOk;rw [Array.all_eq_true'];intro c hc;have:c∈s.toList.map Char.toNat:=by simpa using hc
 obtain ⟨ch,_,rfl⟩:=Hk.mp this;have:=ch.valid;simp only [Jp];rcases this with h | ⟨_,h⟩
 ·show ch.val.toNat < _;have:ch.val.toNat < 0xD800:=h;omega
 ·exact h
noncomputable def iw:List PyData->Option (List Bool)
 | []=>some []
 | .bool b :: r=>match iw r with | some bs=>some (b :: bs) | none=>none
 | _ :: _=>none
theorem rR {K:Fg} {F:Addr->Prop} {H:Hp}:∀ {ds:List PyData} {xs:List V} {bs:List Bool},iw ds=some bs->DmL K F H ds xs->xs=bs.map V.bl
 | [],xs,bs,h,q=>by cases h;exact q
 | .bool b :: r,xs,bs,h,q=>by
  unfold iw at h;split at h
  ·rename_i bs' h';cases h;obtain ⟨v,vr,rfl,h1,h2⟩:=q;rw [rR h' h2,show v=.bl b from h1];rfl
  ·cases h
 | .none :: r,xs,bs,h,q=>by cases h
 | .int _ :: r,xs,bs,h,q=>by cases h
 | .str _ :: r,xs,bs,h,q=>by cases h
 | .list _ :: r,xs,bs,h,q=>by cases h
 | .tuple _ :: r,xs,bs,h,q=>by cases h
 | .dict _ :: r,xs,bs,h,q=>by cases h
noncomputable def B2:Prm:=Prm.one (fun K x=>Fl K [x]) (fun x=>match x with | .list ds=>(iw ds).map fun bs=>.dat (.bool (bs.all id)) | _=>none) fun K F H x u pr Q hf hx hd q=>by
 split at hf
 ·obtain ⟨bs,e,rfl⟩:=Hs.mp hf;obtain ⟨a,us,rfl,s1,z1,d1⟩:=mh hx;rw [rR e d1] at s1;exact ⟨a,bs,rfl,s1,q _ H (ax.rf H) rfl⟩
 ·cases hf
theorem p7 {X:Cx} (hc:X.calm=true):aS X (.builtin "all") (B2.r X.K):=lj (rC hc) fun _ _ _ h=>h
theorem ny {K:Fg} {F:Addr->Prop} {H:Hp} {k:PyData}:∀ {ds:List (PyData×PyData)} {xs:List (PyData×V×V)},DmP K F H ds xs->(∀ d,getD ds k=some d->∃ v,lA xs k=some v/\Dm K F H d v)/\(getD ds k=none->lA xs k=none)
 | [],xs,h=>by
  rw [show xs=[] from h];exact ⟨fun d e=>(nomatch e),fun _=>rfl⟩
 | (k',d') :: ds,xs,h=>by
  obtain ⟨j,v,r,rfl,e,_,h1,h2⟩:=h;have ih:=ny (k:=k) h2;unfold getD lA at ih ⊢;rw [JJ,JJ];cases PyData.eqv k' k with
  | true=>exact ⟨fun d e=>(by cases e;exact ⟨v,rfl,h1⟩),fun e=>(nomatch e)⟩
  | false=>exact ih
mutual
theorem gA:∀ (d:PyData),hkB d=true->noD d=true
 | .int _,_=>rfl
 | .str _,_=>rfl
 | .tuple ds,h=>by rw [noD];exact pK ds h
 | .none,h=>by cases h
 | .bool _,h=>by cases h
 | .list _,h=>by cases h
 | .dict _,h=>by cases h
theorem pK:∀ (ds:List PyData),sX ds=true->dG ds=true
 | [],_=>rfl
 | d :: ds,h=>by
  simp only [sX,HN] at h;rw [dG,gA d h.1,pK ds h.2];rfl
end
theorem eS {d:PyData}:hk6 d=true↔hkB d=true/\d.depth<=6:=by simp [hk6]
theorem q8 {K:Fg} {F:Addr->Prop} {H:Hp} {d:PyData} {v:V} (h:Vw K F H d v) (hk:hk6 d=true):kyB d=true:=by
 rw [eS] at hk;exact aw.mpr ⟨hk.1,h.lay (gA d hk.1),hk.2⟩
theorem mI {X:Cx} {pins:List (Addr×Obj)} {σ:St} {s:Shared} {F:Addr->Prop} {H:Hp} (I:Inv X pins σ H s):∀ {ds:List (PyData×PyData)} {xs:List (PyData×V×V)},DmP X.K F H ds xs->gX s.heap xs
 | [],xs,h=>by rw [show xs=[] from h];intro x hx;cases hx
 | (k,d) :: ds,xs,h=>by
  obtain ⟨j,v,r,rfl,hk,h0,_,h2⟩:=h;intro x hx;rcases Hz.mp hx with rfl | hx
  ·exact ⟨q8 h0.vw hk,fun u ru=>h0.reads I (gA _ (eS.mp hk).1) ru⟩
  ·exact mI I h2 x hx
def B5 (K:Fg) (H:Hp) (x y:V) (k:PyData) (a:Addr) (ep:Nat) (xs:List (PyData×V×V)):Prop:=∃ (F:Addr->Prop) (kvs:List (PyData×PyData)),x=.ref a/\H a=some (.dD ep xs)/\DmP K F H kvs xs/\Vw K F H k y/\hk6 k=true
noncomputable def yD:PyData->PyData->Option PR
 | .dict kvs,k=>if hk6 k=true then (getD kvs k).map .dat else none
 | _,_=>none
def Bq (K:Fg):R2:=fun x y H Q=>∃ k a ep xs v,B5 K H x y k a ep xs/\lA xs k=some v/\Q v H
noncomputable def iu:Prm:=Prm.two Bq yD fun K F H x y u v pr Q hf hx hy hd q=>by
 unfold yD at hf;split at hf
 ·split at hf
  ·rename_i kvs _ hk;obtain ⟨d,e,rfl⟩:=Hs.mp hf;obtain ⟨a,rfl,ep,xs,ea,_,r⟩:=hx;obtain ⟨w,ew,dw⟩:=(ny r).1 d e;exact ⟨_,a,ep,xs,w,⟨F,_,rfl,ea,r,hy,hk⟩,ew,q _ H (ax.rf H) dw⟩
  ·cases hf
 ·cases hf
def Co (neg:Bool) (K:Fg):R2:=fun y x H Q=>∃ k a ep xs,B5 K H x y k a ep xs/\Q (.bl (if neg then !(lA xs k).isSome else (lA xs k).isSome)) H
noncomputable def Du (neg:Bool):Prm:=Prm.two (Co neg) (fun k d=>match d with
  | .dict kvs=>if hk6 k=true then some (.dat (.bool (if neg then !(getD kvs k).isSome else (getD kvs k).isSome))) else none
  | _=>none) fun K F H y x v u pr Q hf hy hx hd q=>by
 split at hf
 ·rename_i kvs;split at hf
  ·rename_i hk;cases hf;obtain ⟨a,rfl,ep,xs,ea,_,r⟩:=hx;have g:=ny (k:=y) r;refine ⟨_,a,ep,xs,⟨F,kvs,rfl,ea,r,hy,hk⟩,q _ H (ax.rf H) ?_⟩;have e:(lA xs y).isSome=(getD kvs y).isSome:=by
    cases z:getD kvs y with
    | none=>rw [g.2 z];rfl
    | some d=>obtain ⟨w,ew,_⟩:=g.1 d z;rw [ew];rfl
   rw [e];cases neg <;> rfl
  ·cases hf
 ·cases hf
section
variable {X:Cx} {a b o i e value:Expr} {pos pos':Pos} {ta tb td ty tv:TE}
theorem jI (hu:X.A.units+64 < cLine) (ho:JE X a ta) (hi:JE X b tb) (hs:FC b):JE X (.Subscript a b pos) (tOp (fun x y=>iu.r X.K [x,y]) ta tb):=⟨by
 intro pins s σ H Q I h;refine wO PySem.F.slot_dict_getitem.lookup hs (thn (ho.h pins s σ H _ I h) fun u s1 ⟨x,H1,I1,rx,q1⟩=>thn (hi.h pins s1 σ H1 _ I1 q1) fun iv s2 ⟨y,H2,I2,ry,k,p,ep,xs,v,⟨F,kvs,ex,ea,r,hk,hk6'⟩,gv,q2⟩=>?_);subst ex;obtain rfl:u=Value.ref p:=rx;obtain ⟨as,rk⟩:=hk.reads I2 (gA _ (eS.mp hk6').1) ry
 exact ⟨(dr I2 ea).1,Bv (by omega) I2 ea (mI I2 r) rk (q8 hk hk6') gv fun t w' rw'=>⟨v,H2,I2.tok t,rw',q2⟩⟩⟩
theorem As (hu:X.A.units+64 < cLine) (hi:PE X i ty) (ho:PE X o td):PC X .In i o (tOp (fun x y=>(Du false).r X.K [x,y]) ty td):=by
 intro pins s σ H Q I h;refine thn (hi pins s σ H _ I h) fun iv s1 ⟨y,H1,I1,ry,q1⟩=>thn (ho pins s1 σ H1 _ I1 q1) fun u s2 ⟨x,H2,I2,rx,k,p,ep,xs,⟨F,kvs,ex,ea,r,hk,hk6'⟩,q2⟩=>?_;subst ex;obtain rfl:u=Value.ref p:=rx;obtain ⟨as,rk⟩:=hk.reads I2 (gA _ (eS.mp hk6').1) ry;refine Ha (m:=contains (.ref p) iv) (E6 (by omega) I2 ea (mI I2 r) rk (q8 hk hk6') fun t=>?_);exact He ⟨.bl _,H2,I2.tok t,rfl,q2⟩
theorem De (hu:X.A.units+64 < cLine) (ha:JE X a ta) (hb:JE X b tb) (hm:behindInMarks .In b=false):JT X (.Compare a [.In] [b] pos) (tB (tOp (fun x y=>(Du false).r X.K [x,y]) ta tb)):=⟨yE (As hu ha.h hb.h) hm⟩
theorem oJ:JE X (.Dict [] [] pos) uW:=⟨ux⟩
theorem Bg {keys:List (Option Expr)} {values:List Expr} {trs:List (TE×TE)} (h:JP X pos keys values trs) (hall:keys.all (·.isSome)=true) (hl:keys.length=values.length) (h0:keys≠[]) (h15:keys.length<=15):JE X (.Dict keys values pos) (rX trs):=⟨uy h.h hall hl h0 h15⟩
end
theorem vI {K:Fg} {F:Addr->Prop} {H:Hp}:∀ {ds:List (PyData×PyData)} {xs:List (PyData×V×V)},DmP K F H ds xs->xs.length=ds.length
 | [],xs,h=>by rw [show xs=[] from h];rfl
 | (k,d) :: ds,xs,h=>by obtain ⟨j,v,r,rfl,_,_,_,h2⟩:=h;rw [Hx,Hx,vI h2]
theorem C2 {K:Fg} {F:Addr->Prop} {H:Hp} {d:PyData} {v:V} (h:Vw K F H d v) (hk:hk6 d=true):Dm K F H d v:=by
 cases d with
 | list ds=>cases hk
 | dict ds=>cases hk
 | _=>exact h
noncomputable def fD:um where
 r:=fun K o y x H Q=>∃ k a ep xs,B5 K H o y k a ep xs/\xs.length < sizeLine/\∀ ep',Q (upd H a (.dD ep' (nt xs k y x)))
 f:=fun d k x=>match d with
  | .dict kvs=>if hk6 k=true/\kvs.length < sizeLine then some (.dict (putD kvs k x)) else none
  | _=>none
 ok:=fun K F H d a k x vk vx d' Q hf ha ht hk hx q=>by
  split at hf
  ·split at hf
   ·rename_i kvs h;cases hf;obtain ⟨ep,xs,ea,z,r⟩:=ht;have hlen:xs.length < sizeLine:=by rw [vI r];exact h.2
    refine ⟨k,a,ep,xs,⟨F,kvs,rfl,ea,r,hk,h.1⟩,hlen,fun ep'=>q _ (fun b o n e=>by rw [af n];exact e) ?_⟩;have p:Pr F H (upd H a (.dD ep' (nt xs k vk vx))):=fun b o e n=>by
     by_cases y:b=a
     ·subst y;rcases n with n | n
      ·exact absurd ha n
      ·rw [ea] at e;cases e;cases n
     ·rw [af y];exact e
    exact ⟨_,_,ah,by have:=nv (xs:=xs) (k:=k) (j:=vk) (v:=vx);omega,(vD r h.1 (C2 hk h.1) hx).pr p fun _ z=>z⟩
   ·cases hf
  ·cases hf
def Ew (K:Fg) (td ty tv:TE):TS:=fun D σ H=>tv σ H fun v H1=>td σ H1 fun x H2=>ty σ H2 fun y H3=>fD.r K x y v H3 (D.nx σ)
theorem jL {X:Cx} {o i value:Expr} {pos pos':Pos} {td ty tv:TE} (hu:X.A.units+64 < cLine) (ho:JE X o td) (hi:JE X i ty) (hv:JE X value tv) (hs:swapsWith value (some (.Subscript o i pos')) pos.line X.env=pure false) :
  JS X (.Assign [.Subscript o i pos'] value pos) (Ew X.K td ty tv):=⟨by
 intro pins s σ H D I h;refine wpAny_Assign_Subscript (thn (hv.h pins s σ H _ I h) fun r s1 ⟨v,H1,I1,rv,q1⟩=>thn (ho.h pins s1 σ H1 _ I1 q1) fun u s2 ⟨x,H2,I2,rx,q2⟩=>thn (hi.h pins s2 σ H2 _ I2 q2) fun iv s3 ⟨y,H3,I3,ry,k,p,ep,xs,⟨F,kvs,ex,ea,r,hk,hk6'⟩,hl,q3⟩=>?_) hs;subst ex;obtain rfl:u=Value.ref p:=rx;obtain ⟨as,rk⟩:=hk.reads I3 (gA _ (eS.mp hk6').1) ry
 exact CZ (by omega) I3 ea (mI I3 r) rk (q8 hk hk6') ry rv hl fun ep' s4 I4=>⟨σ,_,I4,q3 ep'⟩⟩
theorem vd {F:Addr->Prop} {H:Hp} {a:Addr} {o o':HO} (ha:F a) (e:H a=some o') (w:Wr o'=true):Pr F H (upd H a o):=fun b u q n=>by
 by_cases y:b=a
 ·subst y;rcases n with n | n
  ·exact absurd ha n
  ·rw [e] at q;cases q;rw [n] at w;cases w
 ·rw [af y];exact q
theorem DmL.set {K:Fg} {F:Addr->Prop} {H:Hp}:∀ {ds:List PyData} {xs:List V} {d:PyData} {v:V} (j:Nat),DmL K F H ds xs->Dm K F H d v->DmL K F H (ds.set j d) (xs.set j v)
 | [],xs,d,v,j,h,q=>by rw [show xs=[] from h];rfl
 | e :: ds,xs,d,v,0,h,q=>by obtain ⟨w,r,rfl,_,h2⟩:=h;exact ⟨v,r,rfl,q,h2⟩
 | e :: ds,xs,d,v,j+1,h,q=>by obtain ⟨w,r,rfl,h1,h2⟩:=h;exact ⟨w,_,rfl,h1,DmL.set j h2 q⟩
noncomputable def AD:um where
 r:=fun _ o i x H Q=>Bw o i x H Q
 f:=fun d k x=>match d,k with
  | .list xs,.int i=>(ixN xs.length i).map fun j=>.list (xs.set j x)
  | _,_=>none
 ok:=fun K F H d a k x vk vx d' Q hf ha ht hk hx q=>by
  split at hf
  ·obtain ⟨j,e,rfl⟩:=Hs.mp hf;obtain ⟨xs,ea,z,r⟩:=ht;rw [vInt hk];refine ⟨a,xs,_,j,rfl,rfl,ea,by rw [r.len];exact e,q _ (fun b o n e=>by rw [af n];exact e) ⟨_,ah,by rw [HF];exact z,(r.set j hx).pr (vd ha ea rfl) fun _ z=>z⟩⟩
  ·cases hf
theorem Bs {K:Fg} {F:Addr->Prop} {H:Hp} {d:PyData} {a:Addr} (h:isL d=true) (t:Top K F H d a):tyV K "list" (.ref a) H:=by
 cases d with
 | list ds=>obtain ⟨xs,e,_⟩:=t;exact .inl ⟨rfl,xs,.inl (.inl e)⟩
 | _=>cases h
noncomputable def EA:Mtr where
 T := "list"
 r:=fun _=>qb
 ty:=isL
 f:=fun d as=>match d,as with
  | .list xs,[(true,x)]=>if xs.length < sizeLine then some (.list (xs++[x]),.none) else none
  | _,_=>none
 zm:=fun K F H d a h t=>Bs h t
 ok:=fun K F H d a as vs d' x Q hf ha ht hv q=>by
  split at hf
  ·split at hf
   ·rename_i hl;cases hf;obtain ⟨v,r,rfl,hv,rfl⟩:=hv;obtain ⟨xs,ea,z,rx⟩:=ht;refine ⟨a,xs,v,rfl,rfl,ea,by rw [rx.len];exact hl,q _ _ (fun b o n e=>by rw [af n];exact e) ⟨_,ah,by rw [Hq,rx.len];simp;omega,(rx.snoc hv).pr (vd ha ea rfl) fun _ z=>z⟩ rfl⟩
   ·cases hf
  ·cases hf
noncomputable def strsOf:List PyData->Option (List Str)
 | []=>some []
 | .str x :: r=>match strsOf r with | some xs=>some (x :: xs) | none=>none
 | _ :: _=>none
theorem vq {K:Fg} {F:Addr->Prop} {H:Hp}:∀ {ds:List PyData} {xs:List V} {ss:List Str},strsOf ds=some ss->DmL K F H ds xs->xs=ss.map V.str/\∀ s∈ss,PyData.strOk s=true
 | [],xs,bs,h,q=>by cases h;exact ⟨q,fun s z=>by cases z⟩
 | .str b :: r,xs,bs,h,q=>by
  unfold strsOf at h;split at h
  ·rename_i bs' h';cases h;obtain ⟨v,vr,rfl,h1,h2⟩:=q;obtain ⟨i1,i2⟩:=vq h' h2;refine ⟨by rw [i1,show v=.str b from h1.1];rfl,fun s z=>?_⟩;rcases Hz.mp z with rfl | z
   ·exact h1.2.2
   ·exact i2 s z
  ·cases h
 | .none :: r,xs,bs,h,q=>by cases h
 | .int _ :: r,xs,bs,h,q=>by cases h
 | .bool _ :: r,xs,bs,h,q=>by cases h
 | .list _ :: r,xs,bs,h,q=>by cases h
 | .tuple _ :: r,xs,bs,h,q=>by cases h
 | .dict _ :: r,xs,bs,h,q=>by cases h
theorem vL {K:Fg} {F:Addr->Prop} {H:Hp}:∀ {ns:List Int},DmL K F H (ns.map .int) (ns.map .int)
 | []=>rfl
 | n :: ns=>⟨_,_,rfl,rfl,vL⟩
theorem Ai {f:Fn} {K:Fg} {H:Hp} {a:Addr} {ns:List Int} (hm:f.ms=[.dat]) (hl:ns.length<=63) (hS:SqL K H a (ns.map V.int)) (hF:f.F [.list (ns.map .int)]=some (.dat (.bool true),[])):bz f K [.ref a] H (fun v _=>v=.bl true) fun _ _ _=>False:=by
 refine ⟨fun _=>False,[.list (ns.map .int)],[],.dat (.bool true),[],hF,?_,fun _ h=>absurd h id,fun v' H' _ r=>r.1⟩;rw [hm];refine ⟨⟨a,ns.map .int,rfl,?_,?_,vL⟩,rfl⟩
 ·rcases hS with hS | hS
  ·exact .inl ⟨id,hS⟩
  ·exact .inr hS
 ·rw [Hb];exact HJ hl (by decide)
open PySem PySem.Spec PyProof.Rows
section
variable {X:Cx} {pos:Pos} {s:Stmt}
theorem nU:JS X s vp:=⟨fun _ _ _ _ _ _ h=>absurd h id⟩
end
open PySem PySem.Spec PyProof.Rows
noncomputable def p6 (d:PyData):Bool:=noD d&&decide (d.depth<=32)
noncomputable def nz (ds:List PyData) (x:PyData):Bool:=ds.any fun d=>PyData.eqv d x
noncomputable def ngB (neg b:Bool):Bool:=if neg then !b else b
def Gv (neg:Bool) (K:Fg):R2:=rOr (fun x y H Q=>∃ i j,x=.str i/\y=.str j/\Q (.bl (ngB neg (!(Builtin.Str.occurrences j i 0 j.length 1).isEmpty))) H)
 fun x y H Q=>∃ (p:Addr) (xs:List V) (F:Addr->Prop) (d:PyData) (ds:List PyData),y=.ref p/\(SqL K H p xs\/SqT K H p xs)/\Vw K F H d x/\DmL K F H ds xs/\p6 d=true/\dG ds=true/\Q (.bl (ngB neg (nz ds d))) H
noncomputable def inD (neg:Bool):PyData->PyData->Option PR
 | .str i,.str j=>some (.dat (.bool (ngB neg (!(Builtin.Str.occurrences j i 0 j.length 1).isEmpty))))
 | x,.list ds=>if p6 x=true/\dG ds=true then some (.dat (.bool (ngB neg (nz ds x)))) else none
 | x,.tuple ds=>if p6 x=true/\dG ds=true then some (.dat (.bool (ngB neg (nz ds x)))) else none
 | _,_=>none
noncomputable def FG (neg:Bool):Prm:=Prm.two (Gv neg) (inD neg) fun K F H x y u v pr Q hf hx hy hd q=>by
 unfold inD at hf;split at hf
 ·cases hf;exact .inl ⟨_,_,(vStr hx).1,(vStr hy).1,q _ H (ax.rf H) rfl⟩
 ·split at hf
  ·rename_i h;cases hf;obtain ⟨a,us,rfl,s1,z1,d1⟩:=mh hy;exact .inr ⟨a,us,F,_,_,rfl,.inl s1,hx,d1,h.1,h.2,q _ H (ax.rf H) rfl⟩
  ·cases hf
 ·split at hf
  ·rename_i h;cases hf;obtain ⟨a,us,rfl,s1,z1,d1⟩:=uR hy;exact .inr ⟨a,us,F,_,_,rfl,.inr s1,hx,d1,h.1,h.2,q _ H (ax.rf H) rfl⟩
  ·cases hf
 ·cases hf
noncomputable abbrev inP:Prm:=FG false
noncomputable abbrev b7:Prm:=FG true
open Classical in
noncomputable def eqR (h:Heap) (x:PyData) (u:Value):Bool:=if q:∃ d as,Reads h u d as then PyData.eqv (Classical.choose q) x else false
theorem uX {h:Heap} {x d:PyData} {u:Value} {as:List Addr} (r:Reads h u d as):eqR h x u=PyData.eqv d x:=by
 have q:∃ d as,Reads h u d as:=⟨d,as,r⟩;unfold eqR;rw [dif_pos q];obtain ⟨bs,r2⟩:=Classical.choose_spec q;rw [(PySem.Reads.unique r _ _ r2).1]
section
variable {X:Cx} {pins:List (Addr×Obj)} {σ:St} {s:Shared} {H:Hp} {F:Addr->Prop}
theorem gi (I:Inv X pins σ H s) (x:PyData):∀ {ds:List PyData} {xs:List V} {us:List Value},DmL X.K F H ds xs->dG ds=true->Vals xs us->us.any (eqR s.heap x)=nz ds x
 | [],xs,us,h,_,r=>by rw [show xs=[] from h] at r;cases r;rfl
 | d :: ds,xs,us,h,n,r=>by
  obtain ⟨v,t,rfl,h1,h2⟩:=h;have n':noD d=true/\dG ds=true:=by simpa [dG] using n
  cases r with
  | cons r1 r2 =>
   obtain ⟨as,ra⟩:=h1.reads I n'.1 r1;rw [Jb,uX ra,gi I x h2 n'.2 r2];rfl
theorem gH (I:Inv X pins σ H s) {A:Around} {x:PyData} {b:Value} {bs:List Addr} (rb:Reads s.heap b x bs) (hb:x.canLay0=true) (hu:A.units+x.depth < cLine):∀ {ds:List PyData} {xs:List V} {us:List Value},DmL X.K F H ds xs->dG ds=true->Vals xs us->∀ u∈us,SeqAt.EqAt A s u b (eqR s.heap x u)
 | [],xs,us,h,_,r=>by rw [show xs=[] from h] at r;cases r;intro u hu;cases hu
 | d :: ds,xs,us,h,n,r=>by
  obtain ⟨v,t,rfl,h1,h2⟩:=h;have n':noD d=true/\dG ds=true:=by simpa [dG] using n
  cases r with
  | cons r1 r2 =>
   intro u hm;rcases Hz.mp hm with rfl | hm
   ·obtain ⟨as,ra⟩:=h1.reads I n'.1 r1;rw [uX ra];exact SeqAt.eqAt_reads d x A s _ b as bs ra rb (h1.lay n'.1) hb (by omega)
   ·exact gH I rb hb hu h2 n'.2 r2 u hm
end
theorem Fj {X:Cx} (hu:X.A.units+64 < cLine):OpR X (compareOp .In) (fun x y=>inP.r X.K [x,y]):=by
 refine orR AS ?_;intro pins s σ H x y v u Q I rx ry h;obtain ⟨p,xs,F,d,ds,rfl,hq,hd,hs,o1,o2,q⟩:=h;have o1':noD d=true/\d.depth<=32:=by simpa [p6] using o1
 cases ry;obtain ⟨bs,rb⟩:=hd.reads I o1'.1 rx;rcases hq with hq | hq
 ·obtain ⟨its,r,pl,hz⟩:=I.list hq;refine SeqAt.in_listAt (eqR s.heap d) pl.isList (fun w hw=>gH I rb (hd.lay o1'.1) (by have:X.A.in1.units=X.A.units+1:=rfl;omega) hs o2 r w (by simpa using hw)) ⟨.bl _,H,I,rfl,?_⟩;rw [show its.toArray.any (eqR s.heap d)=its.any (eqR s.heap d) by simp,gi I d hs o2 r];exact q
 ·obtain ⟨its,r,pl,hz⟩:=I.tuple hq;refine SeqAt.in_tupleAt (eqR s.heap d) pl (fun w hw=>gH I rb (hd.lay o1'.1) (by have:X.A.in1.units=X.A.units+1:=rfl;omega) hs o2 r w (by simpa using hw)) ⟨.bl _,H,I,rfl,?_⟩;rw [show its.toArray.any (eqR s.heap d)=its.any (eqR s.heap d) by simp,gi I d hs o2 r];exact q
theorem bq {X:Cx} (hu:X.A.units+64 < cLine):OpR X (compareOp .NotIn) (fun x y=>b7.r X.K [x,y]):=by
 refine orR qF ?_;intro pins s σ H x y v u Q I rx ry h;obtain ⟨p,xs,F,d,ds,rfl,hq,hd,hs,o1,o2,q⟩:=h;have o1':noD d=true/\d.depth<=32:=by simpa [p6] using o1
 cases ry;obtain ⟨bs,rb⟩:=hd.reads I o1'.1 rx;rcases hq with hq | hq
 ·obtain ⟨its,r,pl,hz⟩:=I.list hq;refine SeqAt.notIn_listAt (eqR s.heap d) pl.isList (fun w hw=>gH I rb (hd.lay o1'.1) (by have:X.A.in1.units=X.A.units+1:=rfl;omega) hs o2 r w (by simpa using hw)) ⟨.bl _,H,I,rfl,?_⟩;rw [show its.toArray.any (eqR s.heap d)=its.any (eqR s.heap d) by simp,gi I d hs o2 r];exact q
 ·obtain ⟨its,r,pl,hz⟩:=I.tuple hq;refine SeqAt.notIn_tupleAt (eqR s.heap d) pl (fun w hw=>gH I rb (hd.lay o1'.1) (by have:X.A.in1.units=X.A.units+1:=rfl;omega) hs o2 r w (by simpa using hw)) ⟨.bl _,H,I,rfl,?_⟩;rw [show its.toArray.any (eqR s.heap d)=its.any (eqR s.heap d) by simp,gi I d hs o2 r];exact q
open PySem PySem.Spec PyProof.Rows
noncomputable def AH (ww:World):Bool:=ww.params.followText "set-order"
structure CQ (ww:World) (tb:SetTable) (n:Nat):Prop where
 fit:tb.fits n=true
 led:tb.led=!AH ww
 pln:n≠0->tb.plain=false
theorem jC (tb:SetTable) (n:Nat):(tb.orStandIn n).led=tb.led:=by
 unfold SetTable.orStandIn;split <;> rfl
theorem yh (tb:SetTable) (es:Array (Int×Value)) (hs:Int) (x:Value):(layNew tb es hs x).2.1.led=tb.led:=by
 unfold layNew;cases q:tb.freeSlot hs with
 | none=>rfl
 | some p =>
  obtain ⟨sl,wd⟩:=p;exact jC _ _
theorem ql (tb:SetTable) (es:Array (Int×Value)) (k:Nat):(relayAll tb es k).2.1.led=tb.led/\(tb.plain=false->(relayAll tb es k).2.1.plain=false):=by
 unfold relayAll;cases q:tb.relaid (es.map (·.1)) k with
 | none=>exact ⟨rfl,fun _=>rfl⟩
 | some p =>
  obtain ⟨t2,ord⟩:=p;dsimp only;split
  ·unfold SetTable.relaid SetTable.laid at q;cases ho:SetTable.layClean (SetTable.sizeAbove k - 1) (es.map (·.1)) with
   | none=>rw [ho] at q;cases q
   | some ow =>
    rw [ho] at q;simp only [Option.bind_eq_bind,Option.bind_some,Option.pure_def,Option.some.injEq,Prod.mk.injEq] at q;obtain ⟨rfl,_⟩:=q;exact ⟨rfl,fun z=>z⟩
  ·exact ⟨rfl,fun _=>rfl⟩
def cE (pr:Program) (ww:World) (h:Heap) (a:Addr) (ss:List Str):Prop :=
 ∃ ob es ep tb,h.get? a=some ob/\ob.ExactSet/\ob.data=.set es ep tb/\ElemsOf (strKind pr ww) es.toList/\(∃ zs,StrsAre (es.toList.map (·.2)) zs/\zs.Perm ss)/\es.size < scanBound/\CQ ww tb es.size
noncomputable def kU (ss:List Str) (x:Str):List Str:=if x∈ss then ss else ss++[x]
theorem n5 {x:Str}:∀ {es:List (Int×Value)} {zs:List Str},StrsAre (es.map (·.2)) zs->((∃ e∈es,Value.isStrOf x e.2=true)↔x∈zs)
 | [],[],_=>by simp
 | e :: es,_,h=>by
  obtain ⟨hs,v⟩:=e;rw [List.map_cons] at h;cases h with
  | cons y tk h =>
   have ih:=n5 (x:=x) h;have hd:Value.isStrOf x (.str y tk)=true↔x=y:=by
    constructor
    ·intro q;obtain ⟨_,q⟩:=Value.isStrOf_shape q;injection q with q _;exact q.symm
    ·rintro rfl;simp [Value.isStrOf]
   simp only [Hz,exists_eq_or_imp];rw [ih];exact or_congr hd Iff.rfl
theorem cP:∀ {us vs:List Value},us.Perm vs->∀ {zs:List Str},StrsAre vs zs->∃ ws,StrsAre us ws/\ws.Perm zs
 | _,_,.nil,zs,h=>by cases h;exact ⟨[],.nil,.nil⟩
 | _,_,.cons v p,zs,h=>by
  cases h with
  | cons y tk h =>
   obtain ⟨ws,a,b⟩:=cP p h;exact ⟨y :: ws,.cons y tk a,.cons y b⟩
 | _,_,.swap v u l,zs,h=>by
  cases h with
  | cons y tk h =>
   cases h with
   | cons z tk' h=>exact ⟨_,.cons z tk' (.cons y tk h),.swap _ _ _⟩
 | _,_,.trans p q,zs,h=>by
  obtain ⟨ws,a,b⟩:=cP q h;obtain ⟨vs,c,d⟩:=cP p a;exact ⟨vs,c,d.trans b⟩
theorem strs_snoc {x:Str} {tk:Tok}:∀ {us:List Value} {zs:List Str},StrsAre us zs->StrsAre (us++[.str x tk]) (zs++[x])
 | _,_,.nil=>.cons x tk .nil
 | _,_,.cons y t h=>.cons y t (strs_snoc h)
theorem bX:∀ {us:List Value} {zs:List Str},StrsAre us zs->us.length=zs.length
 | _,_,.nil=>rfl
 | _,_,.cons y t h=>by rw [Hx,Hx,bX h]
section
variable {pr:Program} {ww:World} {AA:Around} {EE:Value->Shared->Prop} {st:Shared}
theorem cE.size {h:Heap} {a:Addr} {ss:List Str} (z:cE pr ww h a ss):∃ ob es ep tb,h.get? a=some ob/\ob.data=.set es ep tb/\es.size=ss.length:=by
 obtain ⟨ob,es,ep,tb,h1,_,h2,_,⟨zs,h3,h4⟩,_⟩:=z;refine ⟨ob,es,ep,tb,h1,h2,?_⟩;have:=bX h3;rw [Hb,HL] at this;rw [this,h4.length_eq]
theorem sy {a:Addr} {ob:Obj} {es es':Array (Int×Value)} {ep:Nat} {tb tb':SetTable} {ss:List Str} {h:Heap} (ho:h.get? a=some ob) (hx:ob.ExactSet) (hd:ob.data=.set es ep tb)
  (he:ElemsOf (strKind pr ww) es'.toList) (hz:∃ zs,StrsAre (es'.toList.map (·.2)) zs/\zs.Perm ss) (hb:es'.size < scanBound) (ht:CQ ww tb' es'.size) :
  (h.update a (Obj.putSet es' tb')).get? a=some { ob with data:=.set es' (ep+1) tb' }/\cE pr ww (h.update a (Obj.putSet es' tb')) a ss:=by
 have hg:(h.update a (Obj.putSet es' tb')).get? a=some { ob with data:=.set es' (ep+1) tb' }:=by
  have q:=Iy (Obj.putSet es' tb') ho (by rw [putSet_of es' tb' hd];rfl);rw [putSet_of es' tb' hd] at q;exact q
 exact ⟨hg,_,es',ep+1,tb',hg,hx,rfl,he,hz,hb,ht⟩
theorem vy {gg:Bool->Sem Unit} (hg:∀ (b:Bool) (s1:Shared) (Q':Unit->Shared->Prop),Q' () s1->wpAny (model pr ww) AA (gg b) Q' EE s1)
  {a:Addr} {ob:Obj} {es e1:Array (Int×Value)} {ep:Nat} {tb t2:SetTable} {ss:List Str} {wd:Bool} {RR:Option Bool->Shared->Prop} (ho:st.heap.get? a=some ob) (hx:ob.ExactSet) (hd:ob.data=.set es ep tb)
  (he:ElemsOf (strKind pr ww) e1.toList) (hz:∃ zs,StrsAre (e1.toList.map (·.2)) zs/\zs.Perm ss) (hb:e1.size < scanBound) (ht:CQ ww t2 e1.size) (hp:t2.plain=false)
  (h:∀ h',Heap.SameBut a st.heap h'->cE pr ww h' a ss->RR (some true) { st with heap:=h' }) :
  wpAny (model pr ww) AA (do
    storeSet a e1 t2
    if (!wd&&t2.tooFull)=true then do
      gg (relayAll t2 e1 (SetTable.grown e1.size)).2.2
      storeSet a (relayAll t2 e1 (SetTable.grown e1.size)).1 (relayAll t2 e1 (SetTable.grown e1.size)).2.1
      pure (some true)
     else pure (some true)) RR EE st:=by
 refine Ha (wpAny_storeSet_of ho hd ?_ (fits_of_scanBound hb));obtain ⟨ho1,hS1⟩:=sy (pr:=pr) (ww:=ww) ho hx hd he hz hb ht;have sb:=IP st.heap a (Obj.putSet e1 t2);split
 ·have pm:=relayAll_perm t2 e1 (SetTable.grown e1.size);have ft:=relayAll_fits t2 e1 (SetTable.grown e1.size);have ld:=ql t2 e1 (SetTable.grown e1.size);generalize relayAll t2 e1 (SetTable.grown e1.size)=Y at pm ft ld ⊢;obtain ⟨e2,t3,gv⟩:=Y;dsimp only at pm ft ld ⊢;have sz:e2.size=e1.size:=by rw [<- HL,pm.length_eq,HL]
  have hb2:e2.size < scanBound:=by rw [sz];exact hb
  have hz2:∃ zs,StrsAre (e2.toList.map (·.2)) zs/\zs.Perm ss:=by
   obtain ⟨zs,z1,z2⟩:=hz;obtain ⟨ws,w1,w2⟩:=cP (pm.map (·.2)) z1;exact ⟨ws,w1,w2.trans z2⟩
  refine Ha (hg _ _ _ ?_);refine Ha (wpAny_storeSet_of ho1 rfl ?_ (fits_of_scanBound hb2));obtain ⟨_,hS2⟩:=sy (pr:=pr) (ww:=ww) (tb':=t3) ho1 hx rfl (he.perm pm) hz2 hb2 ⟨ft,ld.1.trans ht.led,fun _=>ld.2 hp⟩;exact He (h _ (sb.trans (IP _ a _)) hS2)
 ·exact He (h _ sb hS1)
theorem CY {a:Addr} {ss:List Str} {x:Str} {tk:Tok} {Q:Bool->Shared->Prop} (hS:cE pr ww st.heap a ss) (room:ss.length+1 < scanBound)
  (h:∀ b h',Heap.SameBut a st.heap h'->cE pr ww h' a (kU ss x)->Q b { st with heap:=h' }) :
  wpAny (model pr ww) AA (setAddHashed a (.str x tk) (hashStr ww x)) Q EE st:=by
 obtain ⟨ob,es,ep,tb,ho,hx,hd,he,⟨zs,hz1,hz2⟩,hb,ht⟩:=hS;have key:(strKind pr ww).is x (.str x tk)=true:=by show Value.isStrOf x (.str x tk)=true;simp [Value.isStrOf]
 have sc:(Value.str x tk).scannable=true:=rfl;have sz:es.size=ss.length:=by
  have:=bX hz1;rw [Hb,HL] at this;rw [this,hz2.length_eq]
 unfold setAddHashed setAddHashedIn;refine HR (Ha (wpAny_setState_of ho hd ht.fit ?_));dsimp only;rw [byScan_of sc hb he];simp only [↓reduceIte];unfold setAddByScan;refine Ha ?_;refine Ha (IH ?_);refine Ha (wpAny_setScan_of (knd:=strKind pr ww) (k:=x) key ho hd ht.fit he ?_);have mem:(∃ e∈es.toList,Value.isStrOf x e.2=true)↔x∈ss:=(n5 hz1).trans hz2.mem_iff;cases hr:List.findIdx? (fun e:Int×Value=>(strKind pr ww).is x e.2) es.toList with
 | some j =>
  dsimp only;obtain ⟨hj,hpj,_⟩:=List.findIdx?_eq_some_iff_getElem.mp hr;have hin:x∈ss:=mem.mp ⟨es.toList[j],Iv hj,hpj⟩;refine He (He ?_);have q:=h false st.heap (Heap.SameBut.refl a st.heap) ⟨ob,es,ep,tb,ho,hx,hd,he,⟨zs,hz1,by unfold kU;rw [Ht hin];exact hz2⟩,hb,ht⟩;cases st;exact q
 | none =>
  dsimp only;have hin:x ∉ ss:=fun hh=>by
   obtain ⟨e,hm,hp⟩:=mem.mpr hh;have:=List.findIdx?_eq_none_iff.mp hr e hm;rw [show (strKind pr ww).is x e.2=true from hp] at this;cases this
  have gw:∀ (b:Bool) (s1:Shared) (Q':Unit->Shared->Prop),Q' () s1->wpAny (model pr ww) AA (match b with | true=>rule "set.scan.the-table-gave-way" | false=>pure ()) Q' EE s1 :=
   fun b s1 Q' hq=>by cases b <;> first | exact He hq | exact IH hq
  have pm:=layNew_perm tb es (hashStr ww x) (.str x tk);have ft:=layNew_fits tb es (hashStr ww x) (.str x tk);have ld:=yh tb es (hashStr ww x) (.str x tk);have hkk:(strKind pr ww).hash x=hashStr ww x:=rfl;generalize layNew tb es (hashStr ww x) (.str x tk)=Y at pm ft ld ⊢;obtain ⟨e1,t1,wd,gv⟩:=Y;dsimp only at pm ft ld ⊢;rw [Array.toList_push] at pm;have he1:ElemsOf (strKind pr ww) e1.toList:=(he.push key sc).perm pm;have sz1:e1.size=ss.length+1:=by rw [<- HL,pm.length_eq,Hq,HL,sz];rfl
  have hz':∃ zs,StrsAre (e1.toList.map (·.2)) zs/\zs.Perm (kU ss x):=by
   have p2:=pm.map (·.2);rw [HH] at p2;obtain ⟨ws,w1,w2⟩:=cP p2 (strs_snoc (x:=x) (tk:=tk) hz1);refine ⟨ws,w1,w2.trans ?_⟩;unfold kU;rw [Hv hin];exact hz2.append_right _
  have hb1:e1.size < scanBound:=by rw [sz1];exact room
  refine Ha (gw _ _ _ ?_);split
  ·refine Ha ?_;rw [hashByValue_scannable 8 sc];refine He ?_;refine vy (gg:=fun b=>match b with | true=>rule "set.scan.the-table-gave-way" | false=>pure ()) gw ho hx hd he1 hz' hb1 (t2:={ t1 with plain:=false }) ⟨SetTable.fits_plain_off ft,ld.trans ht.led,fun _=>rfl⟩ rfl ?_;intro h' sb hS';dsimp only;exact He (h _ h' sb hS')
  ·rename_i npl;have npl:t1.plain=false:=by simpa using npl
   refine Ha (He ?_);simp only [↓reduceIte];refine vy (gg:=fun b=>match b with | true=>rule "set.scan.the-table-gave-way" | false=>pure ()) gw ho hx hd he1 hz' hb1 (t2:=t1) ⟨ft,ld.trans ht.led,fun _=>npl⟩ npl ?_;intro h' sb hS';dsimp only;exact He (h _ h' sb hS')
end
open PySem PySem.Spec PyProof.Rows
noncomputable def uT (val:Nat->Str) (i:Nat):List Str:=((List.range i).map val).foldl kU []
theorem j9 (val:Nat->Str) (i:Nat):uT val (i+1)=kU (uT val i) (val i):=by
 unfold uT;rw [List.range_succ,HH,List.foldl_append];rfl
theorem oe (val:Nat->Str):∀ i,(uT val i).length<=i
 | 0=>Hl _
 | i+1=>by
  have ih:=oe val i;rw [j9];unfold kU;split
  ·omega
  ·rw [Hq];show _+1<=_;omega
section
variable {pr:Program} {ww:World} {AA:Around} {RR:Result->Shared->Prop} {IT:Addr} {fp wr:List Addr} {GG:Array GenState->Array GenState->Prop} {n:Nat} {PP:Nat->Value->Prop} {SS:Nat->Shared->Prop}
theorem cE.at {h h':Heap} {a:Addr} {ss:List Str} (z:cE pr ww h a ss) (k:∀ o,h.get? a=some o->h'.get? a=some o):cE pr ww h' a ss:=by
 obtain ⟨ob,es,ep,tb,ho,r⟩:=z;exact ⟨ob,es,ep,tb,k _ ho,r⟩
theorem CN (W:WalksS pr ww AA.in1 IT fp wr GG n PP SS) (a:Addr) (ha:a ∉ fp) (val:Nat->Str) (hv:∀ i v,PP i v->∃ t,v=.str (val i) t) (hb:n+1 < scanBound) :
  ∀ (k i:Nat) (s:Shared),n - i=k->i<=n->SS i s->cE pr ww s.heap a (uT val i) ->
   (∀ s',Moved (a :: wr) GG s s'->cE pr ww s'.heap a (uT val n)->RR (.ok (.ret .none)) s') ->
   codeAny (model pr ww) AA (.builtin "set.update.loop" ⟨[.ref a,.ref IT],[]⟩) RR s:=by
 have haw:a ∉ wr:=fun z=>ha (W.sub _ z);have hsb:∀ b∈wr,b∈a :: wr:=fun b z=>Hm _ z;intro k;induction k with
 | zero =>
  intro i s hk hi hst hS hR;obtain rfl:i=n:=by omega
  refine Je F.entry_set_update_loop ?_;rw [Jd F.plain_set_update_loop _];show wpAny _ AA.in1 (pyNext (.ref IT)>>=_) _ _ s;refine Ha (W.done s _ _ hst fun s' hm=>?_);exact He (hR s' (hm.mono hsb) (hS.at fun o q=>hm.heap a _ haw q))
 | succ k ih =>
  intro i s hk hi hst hS hR;have hlt:i < n:=by omega
  refine Je F.entry_set_update_loop ?_;rw [Jd F.plain_set_update_loop _];show wpAny _ AA.in1 (pyNext (.ref IT)>>=_) _ _ s;refine Ha (W.item i s _ _ hlt hst fun v s' hP hst' hm=>?_);obtain ⟨t,rfl⟩:=hv i v hP;have hS':cE pr ww s'.heap a (uT val i):=hS.at fun o q=>hm.heap a _ haw q;show wpAny _ AA.in1 (holding [Value.str (val i) t] (setAdd a (.str (val i) t))>>=_) _ _ s';refine Ha (HR ?_);unfold setAdd;refine HR ?_;refine Ha ((strKind pr ww).pyHash (k:=val i) (by show Value.isStrOf (val i) (.str (val i) t)=true;simp [Value.isStrOf]) ?_);refine CY (st:={ s' with toks:=s'.toks+1 }) hS' (by have:=oe val i;omega) fun bb h' hsm hS2=>?_;rw [<- j9] at hS2;refine He ⟨plainId_quiet F.plain_set_update_loop _,ih (i+1) _ (by omega) hlt (W.frame _ s' _ _ hst' (Nat.le_succ _) fun b hb o e=>?_) hS2 fun s'' hm'' hS''=>?_⟩
  ·rw [hsm.2 b (fun z:b=a=>ha (by rw [<- z];exact hb))];exact e
  ·refine hR s'' (Moved.trans W.gtrans ((hm.mono hsb).then_heap (Nat.le_succ _) fun b o hb e=>?_) hm'') hS'';rw [hsm.2 b (fun z:b=a=>hb (by rw [z];exact Hu))];exact e
end
theorem r9:∀ {us:List Value} {zs:List Str},StrsAre us zs->∀ (i:Nat) (v:Value),us[i]?=some v->∃ t,v=.str (zs.getD i Str.empty) t
 | _,_,.nil,i,v,h=>by simp at h
 | _,_,.cons y t h,0,v,q=>by
  simp only [List.getElem?_cons_zero,Option.some.injEq] at q;exact ⟨t,q.symm⟩
 | _,_,.cons y t h,i+1,v,q=>by
  simp only [List.getElem?_cons_succ] at q;exact r9 h i v q
theorem map_getD (ss:List Str):(List.range ss.length).map (fun i=>ss.getD i Str.empty)=ss:=by
 apply List.ext_getElem
 ·simp
 ·intro i h1 h2;simp [h2]
section
variable {pr:Program} {ww:World} {AA:Around} {EE:Value->Shared->Prop} {st:Shared}
noncomputable abbrev fI (ww:World):Obj:={ cls:=.type "set", dict:=none,data:=.set #[] 0 (.fresh 0 0 (!AH ww)) }
theorem C6 (v:Value) {Q:Value->Shared->Prop} (h:Q (.ref st.heap.objs.size) { st with heap:=st.heap.push (fI ww) }) :
  codeAny (model pr ww) AA (.call (.builtin "set.__new__") ⟨[.type "set", v],[]⟩) (wants Q EE) st:=by
 refine codeAny_of_tree ?_;show wpAny _ AA.in1 (do checkBuiltinCall "set.__new__" ⟨[.type "set", v],[]⟩;again (.builtin "set.__new__" ⟨[.type "set", v],[]⟩)) _ _ st;refine Ha (wpAny_of_eq (F.newCall_set_1 v) (He ⟨plainId_quiet F.plain_set_new _,Je F.entry_set_new ?_⟩));rw [Jd F.plain_set_new _];unfold Builtin.«set.__new__» Builtin.Frozenset.newClass
 have hsub:=sub_set_self;obtain ⟨h0,g0,d0,t0,o0⟩:=st;dsimp only at h ⊢
 wp_walk
 refine wpAny_askSetting (He ?_);dsimp only;simp only [newObj];refine Ha (wpAny_alloc (He ?_));exact He h
theorem wY {h:Heap} {a:Addr} (hg:h.get? a=some (fI ww)):cE pr ww h a [] :=
 ⟨_,#[],0,_,hg,⟨rfl,rfl,rfl⟩,rfl,fun e he=>by simp at he,⟨[],.nil,.nil⟩,by decide,⟨rfl,rfl,fun z=>absurd rfl z⟩⟩
theorem sh {l:Addr} {its:Array Value} {ss:List Str} {Q:Value->Shared->Prop} (hh:AA.handled=none) (hl:st.heap.IsList l its) (hi:StrsAre its.toList ss) (hb:its.size+1 < scanBound)
  (h:∀ (h':Heap) (tk:Nat),cE pr ww h' st.heap.objs.size (ss.foldl kU [])->(∀ b o,b < st.heap.objs.size->st.heap.get? b=some o->h'.get? b=some o)->Q (.ref st.heap.objs.size) { st with heap:=h',toks:=tk }) :
  wpAny (model pr ww) AA (call (.type "set") [.ref l]) Q EE st:=by
 obtain ⟨cc,tl,hmro⟩:=F.called_set.mro;have hmade:=F.called_set.made;have hsub:=F.called_set.sub;refine wpAny_call (codeAny_of_tree ?_);show wpAny _ _ (callAny (.type "set") _) _ _ _;refine He ⟨Code.quiet_builtin _ (by decide +kernel),Je F.entry_type_call ?_⟩;rw [Around.under_plain (weight_type_call_type "set" [.ref l] []) rfl];have h1:=F.called_set.notType;have h2:=F.called_set.canCreate;have hct:=F.typeCall_set_1 (.ref l)
 repeat (any_goals (first | assumption | wp_step))
 refine codeAny_mono (C6 (.ref l) (EE:=EE) (Q:=fun obj s1=>obj=.ref st.heap.objs.size/\s1={ st with heap:=st.heap.push (fI ww) }) ⟨rfl,rfl⟩) fun r s1 hr=>?_;cases r with
 | error e=>exact hr
 | ok fl =>
  cases fl with
  | ret obj =>
   obtain ⟨rfl,rfl⟩:=hr;have hS:(st.heap.push (fI ww)).get? st.heap.objs.size=some (fI ww):=HC _ rfl;have hT:Shared.TypeIs { st with heap:=st.heap.push (fI ww) } (.ref st.heap.objs.size) "set" := ⟨_,hS,rfl⟩;have hli:=F.called_set.init.lookup;have hbi:=F.called_set.init.bind (.ref st.heap.objs.size)
   repeat (any_goals (first | assumption | wp_step))
   refine codeAny_mono (codeAny_call_builtin (R:=wants (fun r s2=>r=.none/\∃ h' tk,s2={ st with heap:=h',toks:=tk }/\cE pr ww h' st.heap.objs.size (ss.foldl kU []) /\
     (∀ b o,b < st.heap.objs.size->st.heap.get? b=some o->h'.get? b=some o)) EE) F.called_set.init.plain F.entry_set_init (check_set_init_1 hT ?_)) fun r2 s2 hr2=>?_
   ·obtain ⟨ol,hol,hcl,nl,hdl⟩:=hl;obtain ⟨c1,c2,c3,c4⟩:=ol;simp only at hcl hdl;subst hcl;subst hdl;have hol2:(st.heap.push (fI ww)).get? l=some { cls:=.type "list", dict:=c2,data:=.seq its nl,slots:=c4 }:=Hg _ hol;have hsls:=F.sub_list_set;have hslf:=F.sub_list_frozenset;have hne:(Value.type "list" == Value.type "dict")=false:=by decide
    have hl1:(st.heap.push (fI ww)).IsList l its:=⟨_,hol2,rfl,nl,rfl⟩;unfold Builtin.«set.__init__» noKeywords Builtin.Frozenset.updateFrom
    generalize hPI:pyIter=PI
    wp_walk
    subst hPI;refine wpAny_pyIter_list hl1 ?_;refine Ha (wpAny_runValue ?_);have hlS:l < st.heap.objs.size:=Hw hol;have hh3:AA.in1.in1.in1.handled=none:=by simp [hh]
    have sz1:(st.heap.push (fI ww)).objs.size=st.heap.objs.size+1:=Heap.size_push ..;have hneI:l≠(st.heap.push (fI ww)).objs.size:=by rw [sz1];exact HI (Nat.lt_succ_of_lt hlS)
    have hSf:st.heap.objs.size ∉ [(st.heap.push (fI ww)).objs.size,l]:=by
     rw [sz1];simp only [Hz,Hj,List.not_mem_nil,or_false,not_or];exact ⟨HI (Ju _),Jh hlS⟩
    have hval:∀ (i:Nat) (v:Value),its[i]?=some v->∃ t,v=.str ((fun i=>ss.getD i Str.empty) i) t:=fun i v hv=>r9 hi i v (by rw [Ik];exact hv);have hmet:uT (fun i=>ss.getD i Str.empty) its.size=ss.foldl kU []:=by
     have e1:its.size=ss.length:=by rw [<- bX hi,HL]
     rw [e1];unfold uT;rw [map_getD]
    refine CN ((Walks.list hh3 _ l hneI its).toS) st.heap.objs.size hSf (fun i=>ss.getD i Str.empty) hval hb (its.size - 0) 0 _ (by omega) (Ia _)
     ⟨⟨_,HC _ rfl,rfl,rfl⟩,(hl1.push _)⟩ (wY (Hg _ hS)) ?hR
    intro s' hm hS';rw [hmet] at hS';obtain ⟨h',g',d',tk',os'⟩:=s';have eg:g'=st.gens:=hm.gens;have ed:d'=st.drawn:=hm.drawn;have eo:os'=st.os:=hm.os;subst eg;subst ed;subst eo;show wpAny _ _ _ _ _ _;refine He ?_;show wpAny _ _ (ret Value.none) _ _ _;refine He ⟨rfl,h',tk',rfl,hS',fun b o hb e=>?_⟩;have hb1:b≠st.heap.objs.size:=HI hb;have hb2:b≠(st.heap.push (fI ww)).objs.size:=by rw [sz1];exact HI (Nat.lt_succ_of_lt hb)
    exact hm.heap b o (by simp only [Hz,Hj,List.not_mem_nil,or_false,not_or];exact ⟨hb1,hb2⟩) (Hg _ (Hg _ e))
   ·cases r2 with
    | error e=>exact hr2
    | ok fl2 =>
     cases fl2 with
     | ret r =>
      obtain ⟨rfl,h',tk,rfl,hS',hk'⟩:=hr2
      repeat (any_goals (first | assumption | wp_step))
      exact h _ _ hS' hk'
     | _=>exact hr2.elim
  | _=>exact hr.elim
end
open PySem PySem.Spec PyProof.Rows
noncomputable def eh (ss:List Str):List Str:=ss.foldl kU []
theorem fw (x:Str):∀ (ss acc:List Str),x∈ss.foldl kU acc↔x∈acc\/x∈ss
 | [],acc=>by simp
 | y :: r,acc=>by
  rw [List.foldl_cons,fw x r];have:x∈kU acc y↔x∈acc\/x=y:=by
   unfold kU;split
   ·rename_i h;constructor
    ·exact .inl
    ·rintro (h' | rfl)
     ·exact h'
     ·exact h
   ·simp
  rw [this,Hz,or_assoc]
theorem fU {x:Str} {ss:List Str}:x∈eh ss↔x∈ss:=by
 unfold eh;rw [fw];simp
open PySem PySem.Spec PyProof.Rows
noncomputable def BQ (X:Cx) (p:Addr) (ss:List Str):HO:=.ext fun h=>cE X.prog X.w h p ss
def Dl (X:Cx):List V->Hp->VK->Prop:=fun xs H Q=>∃ (a:Addr) (ss:List Str),xs=[.ref a]/\SqL X.K H a (ss.map V.str)/\ss.length < 1000/\∀ p,H p=none->Q (.ref p) (upd H p (BQ X p (eh ss)))
theorem pA {X:Cx} (hc:X.calm=true):aS X (.type "set") (Dl X):=by
 intro pins s σ H xs us Q I r h;obtain ⟨a,ss,rfl,hq,hl,q⟩:=h;obtain ⟨u,rfl,r1⟩:=vals1 r;cases (show u=Value.ref a from r1);obtain ⟨its,rv,p,hz⟩:=I.list hq;have hS:=je rv;have hl2:its.length=ss.length:=by rw [<- rv.length,Hb]
 refine sh (I.ok.hd hc) p.isList (by simpa using hS) (by show its.toArray.size+1 < 4096;rw [Hr];omega) fun h' tk hS' hk=>?_;have hn:H s.heap.objs.size=none:=I.hok.fresh (Hl _);refine ⟨.ref s.heap.objs.size,_,I.laid (t':=tk) (o:=BQ X s.heap.objs.size (eh ss)) (fun b o hb=>hk b o (Hw hb) hb) (Hl _) ?_,rfl,q _ hn⟩;obtain ⟨ob,es,ep,tb,ho,_⟩:=hS'.size;exact ⟨hS',⟨_,ho⟩,fun h1 h2 z k=>z.at k⟩
open PySem PySem.Spec PyProof.Rows
noncomputable def oS:Prm where
 r:=fun _ vs H Q=>match vs with | []=>∀ p,H p=none->Q (.ref p) (upd H p (.dD 0 [])) | _=>False
 f:=fun ds=>match ds with | []=>some (.frs (.dict [])) | _=>none
 ok:=fun K F H ds vs pr Q hf hv hd q=>by
  match ds,hf with
  | [],hf =>
   cases hf;rw [show vs=[] from hv];exact fun p hp=>q _ _ (ax.nw _ hp) ⟨p,rfl,hp,0,[],ah,Ia _,rfl⟩
open PySem PySem.Spec PyProof.Rows
theorem GW {X:Cx} {e:Expr} {te:TE} {T:String} {p p2 pos:Pos} (hg:Gl X "isinstance") (hm:X.mg "isinstance" = none) (ha:JE X e te) (hs:PySem.W.isStarred e=false) (hb:JE X (.Name (Str.ofString T) p2) (tC (.ty T))):JE X (.Call (.Name "isinstance" p) [e,.Name (Str.ofString T) p2] [] pos) (tCB ((jV T).r X.K) (cT te ml)) :=
 ⟨(eB wN hg hm (by decide +kernel) (eA ha (eA hb ai rfl) hs) hs rfl (by decide) rfl).h⟩
open PySem
structure Kn where
 nx:En->Prop
 rt:RV->En->Prop
 bk:En->Prop
 ct:En->Prop
def Kn.at (E:Kn):Out->Prop | .nx e=>E.nx e | .rt r e=>E.rt r e | .bk e=>E.bk e | .ct e=>E.ct e
def WS (gd:List PyData) (s:XS) (env:En) (E:Kn):Prop:=∃ o,dS gd s env=some o/\E.at o
def WE (gd:List PyData) (e:XE) (env:En) (Q:RV->En->Prop):Prop:=∃ r e',dE gd e env=some (r,e')/\Q r e'
def WA (gd:List PyData) (e:XA) (env:En) (Q:List AV->En->Prop):Prop:=∃ r e',dA gd e env=some (r,e')/\Q r e'
def WT (gd:List PyData) (e:XT) (env:En) (Q:Bool->En->Prop):Prop:=∃ r e',dT gd e env=some (r,e')/\Q r e'
def WI (gd:List PyData) (e:XI) (env:En) (Q:List PyData->Option Nat->En->Prop):Prop:=∃ ds lk e',dI gd e env=some (ds,lk,e')/\Q ds lk e'
def WF (f:Fn) (ds:List PyData) (Q:PR->List PyData->Prop):Prop:=∃ pr outs,f.F ds=some (pr,outs)/\Q pr outs
def WPr (p:Prm) (avs:List AV) (e:En) (Q:RV->En->Prop):Prop:=∃ ds pr,aD e avs=some ds/\p.f ds=some pr/\Q pr.rv e
def zv (i:Nat) (r:RV) (e:En) (N:En->Prop):Prop:=∃ d,r.av=.dat d/\free e i=true/\N (e.set i (.dat d))
def qE (i:Nat) (r:RV) (e:En) (N:En->Prop):Prop:=∃ d,r=.frs d/\free e i=true/\N (e.set i (.own d))
def DN (b:PyData->En->Option Out) (ds:List PyData) (lk:Option Nat) (e1:En) (E:Kn):Prop:=∃ o,forL b ds (a6 e1 lk)=some o/\E.at (o.map (lkd e1 lk) (ao e1 lk))
def oZ (f:Fn) (avs:List AV) (e:En) (Q:RV->En->Prop):Prop:=∃ rv e',t8 f avs e=some (rv,e')/\Q rv e'
def Aw (ms:List PM) (QF:PR->List PyData->Prop) (r:RV) (e:En):Prop:=∃ pr outs,r.pr=some pr/\gC ms e=some outs/\QF pr outs
def tD (ms:List PM) (QF:PR->List PyData->Prop) (e:En):Prop:=∃ outs,gC ms e=some outs/\QF (.dat .none) outs
def yr (m:um) (i:Nat) (v:PyData) (rk:RV) (e2:En) (N:En->Prop):Prop:=∃ dk d d',rk.view e2=some dk/\aC e2 i=some d/\m.f d dk v=some d'/\N (fA e2 i d')
def BY (gd:List PyData) (m:um) (i:Nat) (a:XE) (r:RV) (e:En) (N:En->Prop):Prop:=∃ v,r.av=.dat v/\(aC e i).isSome=true/\WE gd a e fun rk e2=>yr m i v rk e2 N
def B8 (m:Mtd) (r:RV) (avs:List AV) (e2:En) (Q:RV->En->Prop):Prop:=∃ d ds pr,r.view e2=some d/\aD e2 avs=some ds/\m.f d ds=some pr/\Q pr.rv e2
def B6 (gd:List PyData) (m:Mtd) (as:XA) (r:RV) (e:En) (Q:RV->En->Prop):Prop:=∃ d0,r.view e=some d0/\m.ty d0=true/\WA gd as e fun avs e2=>B8 m r avs e2 Q
def WMr (m:Mtr) (i:Nat) (avs:List AV) (e2:En) (Q:RV->En->Prop):Prop:=∃ d ds d' x,aC e2 i=some d/\du e2 avs=some ds/\m.f d ds=some (d',x)/\Q (.dat x) (fA e2 i d')
def WTp (mk:List PyData->RV) (avs:List AV) (e:En) (Q:RV->En->Prop):Prop:=∃ ds,kA avs=some ds/\ds.length<=sizeLine/\Q (mk ds) e
def BV (is:List Nat) (r:RV) (e:En) (N:En->Prop):Prop:=∃ ds e2,r.av=.dat (.tuple ds)/\d7 e is ds=some e2/\N e2
section
variable {gd:List PyData} {env e1:En} {E:Kn} {Q:RV->En->Prop} {QA:List AV->En->Prop} {QT:Bool->En->Prop} {QI:List PyData->Option Nat->En->Prop} {i:Nat} {d:PyData} {a b c:XE} {as:XA} {s t:XS} {p:Prm} {f:Fn} {x y:XT}
theorem cJ {ms:List PM} {n:Nat} {ds:List PyData} {QF:PR->List PyData->Prop} (hl:ds.length=ms.length) (h:WS gd s (ag ms ds n) ⟨tD ms QF,Aw ms QF,fun _=>False,fun _=>False⟩):WF (bI gd ms n s) ds QF:=by
 obtain ⟨o,ho,q⟩:=h;unfold WF bI;simp only;rw [Ht hl,ho];cases o with
 | nx e=>obtain ⟨outs,h1,h2⟩:=q;simp only [h1];exact ⟨_,_,rfl,h2⟩
 | rt r e=>obtain ⟨pr,outs,h1,h2,h3⟩:=q;simp only [h1,h2];exact ⟨_,_,rfl,h3⟩
 | bk e=>exact absurd q id
 | ct e=>exact absurd q id
theorem xP (h:WS gd s env { E with nx:=fun e=>WS gd t e E }):WS gd (.seq s t) env E:=by
 obtain ⟨o,ho,q⟩:=h;unfold WS;simp only [dS,ho];cases o with
 | nx e=>exact q
 | rt r e=>exact ⟨_,rfl,q⟩
 | bk e=>exact ⟨_,rfl,q⟩
 | ct e=>exact ⟨_,rfl,q⟩
theorem vM (h:∀ N:En->Prop,N=(fun e=>WS gd t e E)->WS gd s env { E with nx:=N }):WS gd (.seq s t) env E:=xP (h _ rfl)
theorem lC {e:En} {x y:AV} {i:Int} {xs:List PyData} (h1:aD e [x,y]=some [.list xs,.int i]) (h:atI xs i=some d) (q:Q (.dat d) e):WPr ixP [x,y] e Q:=⟨_,.dat d,h1,by show (atI xs i).map PR.dat=_;rw [h];rfl,q⟩
theorem oK {e:En} {x y:AV} {i:Int} {xs:List PyData} (h1:aD e [x,y]=some [.tuple xs,.int i]) (h:atI xs i=some d) (q:Q (.dat d) e):WPr ixP [x,y] e Q:=⟨_,.dat d,h1,by show (atI xs i).map PR.dat=_;rw [h];rfl,q⟩
theorem Ck {e:En} {x y:AV} {i:Int} {z:Str} {c:Nat} (h1:aD e [x,y]=some [.str z,.int i]) (h:atI z.cps.toList i=some c) (q:Q (.dat (.str ⟨#[c]⟩)) e):WPr ixP [x,y] e Q:=⟨_,.dat (.str ⟨#[c]⟩),h1,by show (atI z.cps.toList i).map _=_;rw [h];rfl,q⟩
theorem Be (h:E.nx env):WS gd .skip env E:=⟨_,rfl,h⟩
theorem Cw (h:E.bk env):WS gd .brk env E:=⟨_,rfl,h⟩
theorem Ey (h:E.ct env):WS gd .cnt env E:=⟨_,rfl,h⟩
theorem zW (h:E.rt (.dat .none) env):WS gd .BR env E:=⟨_,rfl,h⟩
theorem Al (h:WE gd a env fun r e=>zv i r e E.nx):WS gd (.cM i a) env E:=by
 obtain ⟨r,e',h1,d,h2,h3,h4⟩:=h;unfold WS;simp only [dS,h1,h2];rw [Ht h3];exact ⟨_,rfl,h4⟩
theorem zz (h:WE gd a env fun r e=>qE i r e E.nx):WS gd (.oM i a) env E:=by
 obtain ⟨r,e',h1,d,rfl,h3,h4⟩:=h;unfold WS;simp only [dS,h1];rw [Ht h3];exact ⟨_,rfl,h4⟩
theorem yL {is:List Nat} (h:WE gd a env fun r e=>BV is r e E.nx):WS gd (.ym is a) env E:=by
 obtain ⟨r,e',h1,ds,e2,h2,h3,h4⟩:=h;unfold WS;simp only [dS,h1,h2,h3];exact ⟨_,rfl,h4⟩
theorem zJ (h:WE gd a env fun _ e=>E.nx e):WS gd (.drop a) env E:=by
 obtain ⟨r,e',h1,h2⟩:=h;unfold WS;simp only [dS,h1];exact ⟨_,rfl,h2⟩
theorem Ek (h:WE gd a env E.rt):WS gd (.ret a) env E:=by
 obtain ⟨r,e',h1,h2⟩:=h;unfold WS;simp only [dS,h1];exact ⟨_,rfl,h2⟩
theorem C3 (h:WT gd x env fun b e=>if b=true then WS gd s e E else WS gd t e E):WS gd (.ifs x s t) env E:=by
 obtain ⟨b,e',h1,h2⟩:=h;unfold WS;simp only [dS,h1];cases b with
 | true=>exact h2
 | false=>exact h2
theorem F9 {it:XI} (h:WI gd it env fun ds lk e=>DN (iT i (dS gd s)) ds lk e E):WS gd (.fr i it s) env E:=by
 obtain ⟨ds,lk,e',h1,o,h2,h3⟩:=h;unfold WS;simp only [dS,h1,h2];exact ⟨_,rfl,h3⟩
theorem EX {is:List Nat} {it:XI} (h:WI gd it env fun ds lk e=>DN (fZ is (dS gd s)) ds lk e E):WS gd (.frT is it s) env E:=by
 obtain ⟨ds,lk,e',h1,o,h2,h3⟩:=h;unfold WS;simp only [dS,h1,h2];exact ⟨_,rfl,h3⟩
theorem E1 {m:um} (h:WE gd b env fun r e=>BY gd m i a r e E.nx):WS gd (.sto m i a b) env E:=by
 obtain ⟨r,e',h1,v,h2,h3,rk,e2,h4,dk,d,d',h5,h6,h7,h8⟩:=h;obtain ⟨d0,hd0⟩:=Option.isSome_iff_exists.mp h3;unfold WS;simp only [dS,h1,h2,hd0,h4,h5,h6,h7];exact ⟨_,rfl,h8⟩
theorem GB {n:Nat} (Inv:Nat->En->Prop) (m:Nat) (hm:m < n) (h0:Inv m env) (hs:∀ k e,k<=m->Inv k e->WT gd x e fun b e1=>if b=true then WS gd s e1 ⟨fun e2=>∃ j,j < k/\Inv j e2,E.rt,E.nx,fun e2=>∃ j,j < k/\Inv j e2⟩ else E.nx e1):WS gd (.wh n x s) env E:=by
 unfold WS;simp only [dS];induction n generalizing m env with
 | zero=>omega
 | succ n ih =>
  unfold whL;obtain ⟨b,e1,h1,h2⟩:=hs m env (Hl _) h0;rw [h1];cases b with
  | false=>exact ⟨_,rfl,h2⟩
  | true =>
   rw [Ht rfl] at h2;obtain ⟨o,h3,h4⟩:=h2;simp only [h3];have step:∀ e2,(∃ j,j < m/\Inv j e2)->∃ o,whL (dT gd x) (dS gd s) n e2=some o/\E.at o:=fun e2 ⟨j,hj,hi⟩=>ih j (by omega) hi fun k e hk=>hs k e (by omega);cases o with
   | nx e=>exact step e h4
   | ct e=>exact step e h4
   | bk e=>exact ⟨_,rfl,h4⟩
   | rt r e=>exact ⟨_,rfl,h4⟩
theorem w_var (h:env[i]?=some (.dat d)) (q:Q (.dat d) env):WE gd (.var i) env Q:=⟨_,_,by simp only [dE,h],q⟩
theorem yz (h:env[i]?=some (.own d)) (q:Q (.bor i) env):WE gd (.var i) env Q:=⟨_,_,by simp only [dE,h],q⟩
theorem An (h:env[i]?=some (.ino d)) (q:Q (.bor i) env):WE gd (.var i) env Q:=⟨_,_,by simp only [dE,h],q⟩
theorem zZ (h:env[i]?=some (.ro d)) (q:Q (.bor i) env):WE gd (.var i) env Q:=⟨_,_,by simp only [dE,h],q⟩
theorem Cd (h:env[i]?=some (.own d)) (q:Q (.dat d) (env.set i (.dat d))):WE gd (.mov i) env Q:=⟨_,_,by simp only [dE,h],q⟩
theorem D7 (h:env[i]?=some (.own d)) (q:Q (.frs d) (env.set i .un)):WE gd (.tke i) env Q:=⟨_,_,by simp only [dE,h],q⟩
theorem Dr {c:Cst} (q:Q (.dat c.d) env):WE gd (.cst c) env Q:=⟨_,_,rfl,q⟩
theorem E7 {g:Nat} (h:gd[g]?=some d) (q:Q (.dat d) env):WE gd (.glb g) env Q:=⟨_,_,by simp only [dE,h],q⟩
theorem ER (h:WA gd as env fun avs e=>WPr p avs e Q):WE gd (.prm p as) env Q:=by
 obtain ⟨avs,e',h1,ds,pr,h2,h3,h4⟩:=h;exact ⟨_,_,by simp only [dE,h1,h2,h3],h4⟩
theorem z9 (h:WA gd as env fun avs e=>oZ f avs e Q):WE gd (.call f as) env Q:=by
 obtain ⟨avs,e',h1,rv,e2,h2,h3⟩:=h;exact ⟨_,_,by simp only [dE,h1];exact h2,h3⟩
theorem ab {avs:List AV} {ds:List PyData} {is:List Nat} (h1:iH e1 f.ms avs=some ds) (h2:bT f.ms avs=is) (h:WF f ds fun pr outs=>ckA is (sL f.ms avs) outs.length=true/\Q pr.rv (cf e1 is outs)):oZ f avs e1 Q:=by
 obtain ⟨pr,outs,h3,h4,h5⟩:=h;subst h2;unfold oZ t8;simp only [h1,h3];rw [Ht h4];exact ⟨_,_,rfl,h5⟩
theorem Cf {m:Mtd} {o:XE} (h:WE gd o env fun r e=>B6 gd m as r e Q):WE gd (.met m o as) env Q:=by
 obtain ⟨r,e',h1,d0,h2,h3,avs,e2,h4,d,ds,pr,h5,h6,h7,h8⟩:=h;exact ⟨_,_,by simp only [dE,h1,h2];rw [Ht h3];simp only [h4,h5,h6,h7],h8⟩
theorem DZ {m:Mtr} (h0:aC env i=some d) (h1:m.ty d=true) (h:WA gd as env fun avs e2=>WMr m i avs e2 Q):WE gd (.mtr m i as) env Q:=by
 obtain ⟨avs,e2,h4,d,ds,d',x,h5,h6,h7,h8⟩:=h;exact ⟨_,_,by simp only [dE,h0];rw [Ht h1];simp only [h4,h5,h6,h7],h8⟩
theorem zM (h:WA gd as env fun avs e=>WTp (fun ds=>.dat (.tuple ds)) avs e Q):WE gd (.tup as) env Q:=by
 obtain ⟨avs,e2,h4,ds,h5,h6,h7⟩:=h;exact ⟨_,_,by simp only [dE,h4,h5];rw [Ht h6],h7⟩
theorem BI (h:WA gd as env fun avs e=>WTp (fun ds=>.frs (.list ds)) avs e Q):WE gd (.lst as) env Q:=by
 obtain ⟨avs,e2,h4,ds,h5,h6,h7⟩:=h;exact ⟨_,_,by simp only [dE,h4,h5];rw [Ht h6],h7⟩
theorem Ec (h:WT gd x env fun k e=>if k=true then WE gd a e Q else WE gd b e Q):WE gd (.ifx x a b) env Q:=by
 obtain ⟨k,e',h1,h2⟩:=h;unfold WE;simp only [dE,h1];cases k with
 | true=>exact h2
 | false=>exact h2
theorem Ak (h:WE gd a env fun r e=>∃ k,r=.dat (.bool k)/\if k=true then WE gd b e Q else Q (.dat (.bool false)) e):WE gd (.q0 a b) env Q:=by
 obtain ⟨r,e',h1,k,rfl,h2⟩:=h;unfold WE;cases k with
 | true=>simp only [dE,h1];exact h2
 | false=>simp only [dE,h1];exact ⟨_,_,rfl,h2⟩
theorem ED (h:WE gd a env fun r e=>∃ k,r=.dat (.bool k)/\if k=true then Q (.dat (.bool true)) e else WE gd b e Q):WE gd (.orv a b) env Q:=by
 obtain ⟨r,e',h1,k,rfl,h2⟩:=h;unfold WE;cases k with
 | true=>simp only [dE,h1];exact ⟨_,_,rfl,h2⟩
 | false=>simp only [dE,h1];exact h2
theorem yO (h:WE gd a env fun r e=>∃ k,r=.dat (.bool k)/\Q (.dat (.bool (!k))) e):WE gd (.yq a) env Q:=by
 obtain ⟨r,e',h1,k,rfl,h2⟩:=h;exact ⟨_,_,by simp only [dE,h1],h2⟩
theorem DM {p':Prm} (h:WE gd a env fun r e=>WE gd b e fun r2 e2=>∃ x y k,r.av=.dat x/\r2.av=.dat y/\p.f [x,y]=some (.dat (.bool k))/\if k=true then WE gd c e2 fun r3 e3=>∃ z pr,r3.av=.dat z/\p'.f [y,z]=some pr/\Q pr.rv e3 else Q (.dat (.bool false)) e2):WE gd (.chn p p' a b c) env Q:=by
 obtain ⟨r,e',h1,r2,e2,h2,x,y,k,h3,h4,h5,h6⟩:=h;unfold WE;cases k with
 | true =>
  rw [Ht rfl] at h6;obtain ⟨r3,e3,h7,z,pr,h8,h9,h10⟩:=h6;simp only [dE,h1,h2,h3,h4,h5,h7,h8,h9];exact ⟨_,_,rfl,h10⟩
 | false =>
  rw [Hv (by decide)] at h6;simp only [dE,h1,h2,h3,h4,h5];exact ⟨_,_,rfl,h6⟩
theorem D1 {g:Int->Int->Prm} (h:WE gd a env fun r e=>WE gd b e fun r2 e2=>∃ i,r2=.dat (.int i)/\WE gd c e2 fun r3 e3=>∃ j,r3=.dat (.int j)/\∃ d pr,r.view e3=some d/\(g i j).f [d]=some pr/\Q pr.rv e3):WE gd (.sl2 g a b c) env Q:=by
 obtain ⟨r,e',h1,r2,e2,h2,i,rfl,r3,e3,h3,j,rfl,d,pr,h4,h5,h6⟩:=h;exact ⟨_,_,by simp only [dE,h1,h2,h3,h4,h5],h6⟩
def yp (st:PyData->En->Option (Option PyData×En)) (js:List Nat) (ds:List PyData) (lk:Option Nat) (e1:En) (Q:RV->En->Prop):Prop :=
 ∃ ys ec,sR st ds (cq e1 lk js)=some (ys,ec)/\Q (.frs (.list ys)) (ay e1 js ec)
theorem DD {js:List Nat} {it:XI} (hn:xW js=true) (h:WI gd it env fun ds lk e1=>yp (cI (dT gd x) (dE gd a)) js ds lk e1 Q):WE gd (.cmp js it x a) env Q:=by
 obtain ⟨ds,lk,e1,h1,ys,ec,h2,h3⟩:=h;refine ⟨_,_,?_,h3⟩;simp only [dE,h1];rw [Ht (fV hn),h2]
theorem BM {n:List Str} {js:List Nat} {it:XI} (hn:xW js=true) (h:WI gd it env fun ds lk e1=>yp (jv n.length (dE gd a)) js ds lk e1 Q):WE gd (.sH n js it a) env Q:=by
 obtain ⟨ds,lk,e1,h1,ys,ec,h2,h3⟩:=h;refine ⟨_,_,?_,h3⟩;simp only [dE,h1];rw [Ht (fV hn),h2]
def w8 (st:PyData->En->Option (Option PyData×En)) (d:PyData) (ec:En) (Q:Option PyData->En->Prop):Prop:=∃ y e,st d ec=some (y,e)/\Q y e
theorem fi {QS:Option PyData->En->Prop} {ec:En} (h:WT gd x (.dat d :: ec) fun k e2=>if k=true then WE gd a e2 fun r e3=>∃ y,r.av=.dat y/\QS (some y) e3.tail else QS none e2.tail):w8 (cI (dT gd x) (dE gd a)) d ec QS:=by
 obtain ⟨k,e2,h1,h2⟩:=h;unfold w8 cI;rw [h1];cases k with
 | true =>
  rw [Ht rfl] at h2;obtain ⟨r,e3,h3,y,h4,h5⟩:=h2;simp only [h3,h4];exact ⟨_,_,rfl,h5⟩
 | false =>
  rw [Hv (by decide)] at h2;exact ⟨_,_,rfl,h2⟩
theorem cn {st:PyData->En->Option (Option PyData×En)} {js:List Nat} {ds:List PyData} {lk:Option Nat} (Inv:Nat->List PyData->En->Prop) (h0:Inv 0 [] (cq e1 lk js))
  (hs:∀ i d ys ec,ds[i]?=some d->Inv i ys ec->w8 st d ec fun y e=>Inv (i+1) (ys++y.toList) e)
  (hq:∀ ys ec,Inv ds.length ys ec->Q (.frs (.list ys)) (ay e1 js ec)):yp st js ds lk e1 Q:=by
 have key:∀ (rest:List PyData) (i:Nat) (ys:List PyData) (ec:En),ds.drop i=rest->i<=ds.length->Inv i ys ec->∃ zs ec',sR st rest ec=some (zs,ec')/\Inv ds.length (ys++zs) ec':=by
  intro rest;induction rest with
  | nil =>
   intro i ys ec hd hi hI;have:ds.length<=i:=List.drop_eq_nil_iff.mp hd;have:i=ds.length:=by omega
   subst this;exact ⟨[],ec,rfl,by rw [JK];exact hI⟩
  | cons d rest ih =>
   intro i ys ec hd hi hI;have hlt:i < ds.length:=by
    apply Iz;intro h;rw [List.drop_eq_nil_iff.mpr (by omega)] at hd;cases hd
   rw [Jo hlt] at hd;injection hd with hd1 hd2;obtain ⟨y,e,h1,h2⟩:=hs i d ys ec (by rw [Hc hlt,hd1]) hI;obtain ⟨zs,ec',h3,h4⟩:=ih (i+1) _ e hd2 hlt h2;refine ⟨y.toList++zs,ec',?_,by rw [<- List.append_assoc];exact h4⟩;unfold sR;simp only [h1,h3]
 obtain ⟨zs,ec,h1,h2⟩:=key ds 0 [] _ rfl (Ia _) h0;exact ⟨zs,ec,h1,hq zs ec h2⟩
def WB (b:PyData->En->Option Out) (d:PyData) (e:En) (E:Kn):Prop:=∃ o,b d e=some o/\E.at o
theorem CG {e:En} (hf:free e i=true) (h:WS gd s (e.set i (.dat d)) E):WB (iT i (dS gd s)) d e E:=by
 obtain ⟨o,h1,h2⟩:=h;exact ⟨o,by unfold iT;rw [Ht hf];exact h1,h2⟩
theorem Bz {e e2:En} {is:List Nat} {xs:List PyData} (hf:d7 e is xs=some e2) (h:WS gd s e2 E):WB (fZ is (dS gd s)) (.tuple xs) e E:=by
 obtain ⟨o,h1,h2⟩:=h;exact ⟨o,by unfold fZ;simp only [hf];exact h1,h2⟩
theorem bF {b:PyData->En->Option Out} {ds:List PyData} {lk:Option Nat} (Inv:Nat->En->Prop) (h0:Inv 0 (a6 e1 lk))
  (hs:∀ i d e,ds[i]?=some d->Inv i e->WB b d e ⟨Inv (i+1),fun r e=>E.rt (r.soft (lkd e1 lk)) (ao e1 lk e),fun e=>E.nx (ao e1 lk e),Inv (i+1)⟩)
  (hq:∀ e,Inv ds.length e->E.nx (ao e1 lk e)):DN b ds lk e1 E:=by
 have key:∀ (rest:List PyData) (i:Nat) (e:En),ds.drop i=rest->i<=ds.length->Inv i e->∃ o,forL b rest e=some o/\E.at (o.map (lkd e1 lk) (ao e1 lk)):=by
  intro rest;induction rest with
  | nil =>
   intro i e hd hi hI;have:ds.length<=i:=List.drop_eq_nil_iff.mp hd;have:i=ds.length:=by omega
   subst this;exact ⟨_,rfl,hq e hI⟩
  | cons d rest ih =>
   intro i e hd hi hI;have hlt:i < ds.length:=by
    apply Iz;intro h;rw [List.drop_eq_nil_iff.mpr (by omega)] at hd;cases hd
   rw [Jo hlt] at hd;injection hd with hd1 hd2;obtain ⟨o,h1,h2⟩:=hs i d e (by rw [Hc hlt,hd1]) hI;unfold forL;simp only [h1];cases o with
   | nx e'=>exact ih (i+1) e' hd2 hlt h2
   | ct e'=>exact ih (i+1) e' hd2 hlt h2
   | bk e'=>exact ⟨_,rfl,h2⟩
   | rt r e'=>exact ⟨_,rfl,h2⟩
 exact key ds 0 _ rfl (Ia _) h0
theorem EB (q:QA [] env):WA gd .nil env QA:=⟨_,_,rfl,q⟩
theorem yN (h:WE gd a env fun r e=>WA gd as e fun avs e2=>QA (r.av :: avs) e2):WA gd (.cons a as) env QA:=by
 obtain ⟨r,e',h1,avs,e2,h2,h3⟩:=h;exact ⟨_,_,by simp only [dA,h1,h2],h3⟩
theorem CD (h:WE gd a env fun r e=>∃ k,r=.dat (.bool k)/\QT k e):WT gd (.tst a) env QT:=by
 obtain ⟨r,e',h1,k,rfl,h2⟩:=h;exact ⟨_,_,by simp only [dT,h1],h2⟩
theorem DO (h:WE gd a env fun r e=>∃ d,r.view e=some d/\Di d=false/\QT (CV d) e):WT gd (.tru a) env QT:=by
 obtain ⟨r,e',h1,d,h2,h4,h3⟩:=h;exact ⟨_,e',by simp only [dT,h1,h2,h4];rfl,h3⟩
theorem w_and (h:WT gd x env fun k e=>if k=true then WT gd y e QT else QT false e):WT gd (.and x y) env QT:=by
 obtain ⟨k,e',h1,h2⟩:=h;unfold WT;cases k with
 | true=>simp only [dT,h1];exact h2
 | false=>simp only [dT,h1];exact ⟨_,_,rfl,h2⟩
theorem w_or (h:WT gd x env fun k e=>if k=true then QT true e else WT gd y e QT):WT gd (.or x y) env QT:=by
 obtain ⟨k,e',h1,h2⟩:=h;unfold WT;cases k with
 | true=>simp only [dT,h1];exact ⟨_,_,rfl,h2⟩
 | false=>simp only [dT,h1];exact h2
theorem w_not (h:WT gd x env fun k e=>QT (!k) e):WT gd (.not x) env QT:=by
 obtain ⟨k,e',h1,h2⟩:=h;exact ⟨_,_,by simp only [dT,h1],h2⟩
theorem DQ (h:QT true env):WT gd .yes env QT:=⟨_,_,rfl,h⟩
def yk (r:RV) (e:En) (QI:List PyData->Option Nat->En->Prop):Prop:=(∃ ds,r.av=.dat (.list ds)/\QI ds none e)\/∃ i ds,r.av=.bor i/\cont e i=some (.list ds)/\QI ds (some i) e
theorem Gk (h:WE gd a env fun r e=>yk r e QI):WI gd (.lst a) env QI:=by
 obtain ⟨r,e',h1,⟨ds,h2,h3⟩ | ⟨i,ds,h2,h3,h4⟩⟩:=h
 ·exact ⟨_,_,_,by simp only [dI,h1,h2],h3⟩
 ·exact ⟨_,_,_,by simp only [dI,h1,h2,h3],h4⟩
theorem gZ {r:RV} {e:En} {ds:List PyData} (h:r.av=.dat (.list ds)) (q:QI ds none e):yk r e QI:=.inl ⟨ds,h,q⟩
theorem CU {r:RV} {e:En} {ds:List PyData} (h:r.av=.bor i) (hc:cont e i=some (.list ds)) (q:QI ds (some i) e):yk r e QI:=.inr ⟨i,ds,h,hc,q⟩
theorem GV (h:WE gd a env fun r e=>∃ ds,r.av=.dat (.tuple ds)/\QI ds none e):WI gd (.tup a) env QI:=by
 obtain ⟨r,e',h1,ds,h2,h3⟩:=h;exact ⟨_,_,_,by simp only [dI,h1,h2],h3⟩
def WSq (r:RV) (e:En) (QI:List PyData->Option Nat->En->Prop):Prop:=yk r e QI\/∃ ds,r.av=.dat (.tuple ds)/\QI ds none e
theorem GP (h:WE gd a env fun r e=>WSq r e QI):WI gd (.sq a) env QI:=by
 obtain ⟨r,e',h1,(⟨ds,h2,h3⟩ | ⟨i,ds,h2,h3,h4⟩) | ⟨ds,h2,h3⟩⟩:=h
 ·exact ⟨_,_,_,by simp only [dI,h1,h2],h3⟩
 ·exact ⟨_,_,_,by simp only [dI,h1,h2,h3],h4⟩
 ·exact ⟨_,_,_,by simp only [dI,h1,h2],h3⟩
theorem Gi (h:WE gd a env fun r e=>∃ z,r.av=.dat (.str z)/\QI (z.cps.toList.map fun c=>.str ⟨#[c]⟩) none e):WI gd (.str a) env QI:=by
 obtain ⟨r,e',h1,ds,h2,h3⟩:=h;exact ⟨_,_,_,by simp only [dI,h1,h2],h3⟩
theorem GA (h:WA gd as env fun avs e=>∃ j:Int,avs=[.dat (.int j)]/\(-(2 ^ 62)<=j/\j<=2 ^ 24)/\QI ((List.range j.toNat).map fun (k:Nat)=>.int ((0:Int)+(k:Int))) none e):WI gd (.rng1 as) env QI:=by
 obtain ⟨r,e',h1,j,rfl,h2,h3⟩:=h;exact ⟨_,_,_,by simp only [dI,h1];rw [Ht h2],h3⟩
end
open PySem
theorem uz {e:En} {i:Nat} {s:Sl} (h:e[i]?=some s) (q:soft s):free e i=true:=by
 unfold free;rw [h];cases s with
 | ino d=>exact absurd rfl (q.1 d)
 | ro d=>exact absurd rfl (q.2 d)
 | _=>rfl
theorem Cp:soft .un:=⟨fun _=>nofun,fun _=>nofun⟩
theorem Dq {d:PyData}:soft (.dat d):=⟨fun _=>nofun,fun _=>nofun⟩
theorem C4 {d:PyData}:soft (.own d):=⟨fun _=>nofun,fun _=>nofun⟩
theorem Ac {e:En} {i:Nat} {avs:List AV} {xs:List PyData} {d:PyData} {Q:RV->En->Prop} (h1:aC e i=some (.list xs)) (h2:xs.length < sizeLine) (h3:du e avs=some [(true,d)]) (q:Q (.dat .none) (fA e i (.list (xs++[d])))):WMr EA i avs e Q :=
 ⟨_,_,.list (xs++[d]),.none,h1,h3,by show (if xs.length < sizeLine then _ else _)=_;rw [Ht h2],q⟩
theorem lZ:∀ (ss:List Str),strsOf (ss.map .str)=some ss
 | []=>rfl
 | s :: ss=>by simp only [List.map_cons,strsOf,lZ ss]
theorem uV {e:En} {x y:AV} {xs ys:List PyData} {Q:RV->En->Prop} (h1:aD e [x,y]=some [.list xs,.list ys]) (h2:xs.length+ys.length<=sizeLine) (q:Q (.frs (.list (xs++ys))) e):WPr lD [x,y] e Q :=
 ⟨_,.frs (.list (xs++ys)),h1,by show (if xs.length+ys.length<=sizeLine then _ else _)=_;rw [Ht h2],q⟩
theorem BB {e:En} {x y:AV} {xs ys:Str} {Q:RV->En->Prop} (h1:aD e [x,y]=some [.str xs,.str ys]) (h2:xs.length+ys.length<=sizeLine) (q:Q (.dat (.str (xs++ys))) e):WPr lD [x,y] e Q :=
 ⟨_,.dat (.str (xs++ys)),h1,by show (if xs.length+ys.length<=sizeLine then _ else _)=_;rw [Ht h2],q⟩
theorem w_eq {e:En} {x y:AV} {d d':PyData} {Q:RV->En->Prop} (h1:aD e [x,y]=some [d,d']) (h2:iB d=true) (h3:iB d'=true) (q:Q (.dat (.bool (PyData.eqv d d'))) e):WPr eqP [x,y] e Q :=
 ⟨_,.dat (.bool (PyData.eqv d d')),h1,by show (if iB d=true/\iB d'=true then _ else _)=_;rw [Ht ⟨h2,h3⟩];rfl,q⟩
theorem FA {e:En} {x y:AV} {d d':PyData} {Q:RV->En->Prop} (h1:aD e [x,y]=some [d,d']) (h2:iB d=true) (h3:iB d'=true) (q:Q (.dat (.bool (!PyData.eqv d d'))) e):WPr neP [x,y] e Q :=
 ⟨_,.dat (.bool (!PyData.eqv d d')),h1,by show (if iB d=true/\iB d'=true then _ else _)=_;rw [Ht ⟨h2,h3⟩];rfl,q⟩
theorem m7 {i:Nat} {v:PyData} {rk:RV} {e2:En} {N:En->Prop} {k:Int} {xs:List PyData} (h1:rk.view e2=some (.int k)) (h2:aC e2 i=some (.list xs)) (h3:0<=k) (h4:k < xs.length) (q:N (fA e2 i (.list (xs.set k.toNat v)))):yr AD i v rk e2 N:=by
 refine ⟨_,_,.list (xs.set k.toNat v),h1,h2,?_,q⟩;show (ixN xs.length k).map _=_;unfold ixN;rw [Ht h3,Ht h4];rfl
theorem jD {n i:Nat} {d:PyData} (h:((List.range n).map fun (k:Nat)=>PyData.int ((0:Int)+(k:Int)))[i]?=some d):d=.int i/\i < n:=by
 rw [Hi] at h;cases q:(List.range n)[i]? with
 | none=>rw [q] at h;cases h
 | some j =>
  rw [q] at h;obtain ⟨hi,e⟩:=Hd.mp q;rw [Ie] at hi;have:j=i:=by rw [<- e];simp
  subst this;cases h;exact ⟨by simp,hi⟩
theorem jo {n:Nat}:((List.range n).map fun (k:Nat)=>PyData.int ((0:Int)+(k:Int))).length=n:=by rw [Hb,Ie]
theorem atV {α:Type} {xs:List α} {r:Int} (h0:0<=r) (h1:r < xs.length):∃ v,v∈xs/\atI xs r=some v:=by
 have hj:r.toNat < xs.length:=by omega
 have ej:r=((r.toNat:Nat):Int):=by omega
 refine ⟨xs[r.toNat],Iv hj,?_⟩;have:=gP (xs:=xs) (j:=r.toNat) (v:=xs[r.toNat]) (Hc hj);rw [<- ej] at this;exact this
theorem jd:∀ (ss:List Str),strsOf (ss.map .str)=some ss
 | []=>rfl
 | s :: ss=>by simp only [List.map_cons,strsOf,jd ss]
theorem uc {α:Type} {xs:List α} {k:Int} (h:0<=k):cutD xs none (some k)=xs.take k.toNat:=by
 unfold cutD;simp only [HT.sIx,List.drop_zero,Nat.sub_zero];rw [Hv (by omega)];by_cases z:k.toNat<=xs.length
 ·congr 1;omega
 ·rw [Jz (by omega),Jz (by omega)]
theorem mr (x:Str):x.cps.toList.length=x.length:=by simp [Str.length]
theorem fN:∀ {ds:List PyData},dG ds=true↔∀ d∈ds,noD d=true
 | []=>by simp [dG]
 | d :: ds=>by simp [dG,fN (ds:=ds)]
theorem dJ {k:Nat}:∀ {ds:List PyData},(∀ d∈ds,d.depth<=k)->PyData.depthAll ds<=k
 | [],_=>by simp [PyData.depthAll]
 | d :: ds,h=>by
  have h1:=h d Hu;have h2:=dJ fun x hx=>h x (Hm _ hx);simp only [PyData.depthAll];omega
theorem yo {k:Nat} {ds:List PyData} (h:∀ d∈ds,d.depth<=k):(PyData.list ds).depth<=k+1:=by
 simp only [PyData.depth];have:=dJ h;omega
theorem gU {k:Nat} {ds:List PyData} (h:∀ d∈ds,d.depth<=k):(PyData.tuple ds).depth<=k+1:=by
 simp only [PyData.depth];have:=dJ h;omega
theorem xc {d:PyData} (h1:noD d=true) (h2:d.depth<=64):iB d=true:=by simp [iB,h1,h2]
open PySem PySem.Spec PyProof.Rows
theorem iQ:∀ bs:List Bool,iw (bs.map .bool)=some bs
 | []=>rfl
 | b :: bs=>by
  rw [List.map_cons];unfold iw;rw [iQ bs]
theorem o9 {acc:List Str} {x:Str} (h:acc.Nodup):(kU acc x).Nodup:=by
 unfold kU;split
 ·exact h
 ·rename_i hx;refine IY.mpr ⟨h,by simp,fun a ha b hb=>?_⟩;rw [Hj.mp hb];exact fun z=>hx (z▸ha)
theorem i0:∀ (ss acc:List Str),acc.Nodup->(ss.foldl kU acc).Nodup
 | [],acc,h=>h
 | y :: r,acc,h=>i0 r _ (o9 h)
theorem i4 (ss:List Str):(eh ss).Nodup:=i0 ss [] List.nodup_nil
open PySem PySem.Spec PyProof.Rows
def i6:List (Option Sl)->En->Prop
 | [],e=>e=[]
 | some s :: r,e=>∃ e',i6 r e'/\e=s :: e'
 | none :: r,e=>∃ x e',soft x/\i6 r e'/\e=x :: e'
def uO:List (Option Sl)->(En->Prop)->Prop
 | [],P=>P []
 | some s :: ts,P=>uO ts fun e=>P (s :: e)
 | none :: ts,P=>∀ s,soft s->uO ts fun e=>P (s :: e)
theorem i6.out:∀ {ts:List (Option Sl)} {e:En} {P:En->Prop},i6 ts e->uO ts P->P e
 | [],_,_,h,q=>by cases (show _=_ from h);exact q
 | some s :: ts,e,P,h,q=>by obtain ⟨r,hr,rfl⟩:=h;exact hr.out (P:=fun e=>P (s :: e)) q
 | none :: ts,e,P,h,q=>by obtain ⟨s,r,hs,hr,rfl⟩:=h;exact hr.out (P:=fun e=>P (s :: e)) (q s hs)
section
variable {gd:List PyData} {e e':En} {E:Kn} {Q:RV->En->Prop} {QA:List AV->En->Prop} {QT:Bool->En->Prop} {QI:List PyData->Option Nat->En->Prop} {N:En->Prop} {i:Nat} {r:RV}
theorem yJ (h:e=e') (q:zv i r e' N):zv i r e N:=h▸q
theorem xh (h:e=e') (q:qE i r e' N):qE i r e N:=h▸q
theorem zC {is:List Nat} (h:e=e') (q:BV is r e' N):BV is r e N:=h▸q
theorem Gw {as:XA} (h:e=e') (q:WA gd as e' QA):WA gd as e QA:=h▸q
theorem FX {a:XE} (h:e=e') (q:WE gd a e' Q):WE gd a e Q:=h▸q
theorem GF {s:XS} (h:e=e') (q:WS gd s e' E):WS gd s e E:=h▸q
theorem FW {t:XT} (h:e=e') (q:WT gd t e' QT):WT gd t e QT:=h▸q
theorem Ge {t:XI} (h:e=e') (q:WI gd t e' QI):WI gd t e QI:=h▸q
theorem Eo {p:Prm} {avs:List AV} (h:e=e') (q:WPr p avs e' Q):WPr p avs e Q:=h▸q
theorem xI {f:Fn} {avs:List AV} (h:e=e') (q:oZ f avs e' Q):oZ f avs e Q:=h▸q
theorem C8 {mk:List PyData->RV} {avs:List AV} (h:e=e') (q:WTp mk avs e' Q):WTp mk avs e Q:=h▸q
theorem CC {m:Mtr} {avs:List AV} (h:e=e') (q:WMr m i avs e' Q):WMr m i avs e Q:=h▸q
theorem CA {m:Mtd} {avs:List AV} (h:e=e') (q:B8 m r avs e' Q):B8 m r avs e Q:=h▸q
theorem yQ {m:Mtd} {as:XA} (h:e=e') (q:B6 gd m as r e' Q):B6 gd m as r e Q:=h▸q
theorem zN {ms:List PM} {QF:PR->List PyData->Prop} (h:e=e') (q:Aw ms QF r e'):Aw ms QF r e:=h▸q
theorem wj {ms:List PM} {QF:PR->List PyData->Prop} (h:e=e') (q:tD ms QF e'):tD ms QF e:=h▸q
theorem zu (h:e=e') (q:yk r e' QI):yk r e QI:=h▸q
theorem A4 {m:um} {a:XE} (h:e=e') (q:BY gd m i a r e' N):BY gd m i a r e N:=h▸q
theorem zx {m:um} {v:PyData} (h:e=e') (q:yr m i v r e' N):yr m i v r e N:=h▸q
end
theorem isEq {b:Bool} {avs:List AV} {e:En} {Q:RV->En->Prop} (h:WPr (B4 b) avs e Q):WPr (B4 b) avs e Q:=h
theorem oW {env e2:En} {i:Nat} {is:List Nat} {d:PyData} {ds:List PyData} (h:free env i=true) (q:d7 (env.set i (.dat d)) is ds=some e2):d7 env (i :: is) (d :: ds)=some e2:=by
 simp only [d7];rw [Ht h];exact q
theorem mG {x y:Str}:PyData.eqv (.str x) (.str y)=decide (x=y):=by
 simp only [PyData.eqv];rfl
def Fo (p:Prm) (r r2:RV) (k:PyData->Bool->Prop):Prop:=∃ x y b,r.av=.dat x/\r2.av=.dat y/\p.f [x,y]=some (.dat (.bool b))/\k y b
def Ff (p:Prm) (y:PyData) (r:RV) (e:En) (Q:RV->En->Prop):Prop:=∃ z pr,r.av=.dat z/\p.f [y,z]=some pr/\Q pr.rv e
theorem zK {gd:List PyData} {env:En} {p p':Prm} {a b c:XE} {Q:RV->En->Prop} (h:WE gd a env fun r e=>WE gd b e fun r2 e2=>Fo p r r2 fun y k=>if k=true then WE gd c e2 fun r3 e3=>Ff p' y r3 e3 Q else Q (.dat (.bool false)) e2):WE gd (.chn p p' a b c) env Q:=by
 refine DM ?_;obtain ⟨r,e,h1,r2,e2,h2,x,y,k,h3,h4,h5,h6⟩:=h;exact ⟨r,e,h1,r2,e2,h2,x,y,k,h3,h4,h5,h6⟩
theorem w_all {e:En} {x:AV} {bs:List Bool} {Q:RV->En->Prop} (h1:aD e [x]=some [.list (bs.map .bool)]) (q:Q (.dat (.bool (bs.all id))) e):WPr B2 [x] e Q:=by
 refine ⟨_,.dat (.bool (bs.all id)),h1,?_,q⟩;show (iw (bs.map .bool)).map _=_;rw [iQ];rfl
theorem IC {α:Type} {xs:List α} {i:Nat} {x:α} (h:xs[i]?=some x):xs.take i++[x]=xs.take (i+1):=by
 rw [List.take_add_one,h];rfl
theorem nT {α:Type} {P:α->Prop} {xs:List α} {y:α} (h:∀ x∈xs,P x) (hy:P y):∀ x∈xs++[y],P x:=fun x hm=>by
 rcases HK.mp hm with hm | hm
 ·exact h x hm
 ·rw [Hj.mp hm];exact hy
open PySem PySem.Spec PyProof.Rows
section
variable {gd:List PyData} {a:XE} {env:En} {QI:List PyData->Option Nat->En->Prop}
def GL (r:RV) (e:En) (QI:List PyData->Option Nat->En->Prop):Prop:=(∃ kvs,r.av=.dat (.dict kvs)/\QI (kvs.map (·.1)) none e)\/∃ i kvs,r.av=.bor i/\cont e i=some (.dict kvs)/\QI (kvs.map (·.1)) (some i) e
theorem GD (h:WE gd a env fun r e=>GL r e QI):WI gd (.dct a) env QI:=by
 obtain ⟨r,e',h1,⟨kvs,h2,h3⟩ | ⟨i,kvs,h2,h4,h3⟩⟩:=h
 ·exact ⟨_,_,_,by simp only [dI,h1,h2],h3⟩
 ·exact ⟨_,_,_,by simp only [dI,h1,h2,h4],h3⟩
end
theorem AU {e:En} {x y:AV} {k d:PyData} {kvs:List (PyData×PyData)} {Q:RV->En->Prop} (h1:aD e [x,y]=some [.dict kvs,k]) (h2:hk6 k=true) (h3:getD kvs k=some d) (q:Q (.dat d) e):WPr iu [x,y] e Q :=
 ⟨_,.dat d,h1,by show (if hk6 k=true then (getD kvs k).map PR.dat else none)=_;rw [Ht h2,h3];rfl,q⟩
theorem iV {i:Nat} {v k:PyData} {rk:RV} {e2:En} {N:En->Prop} {kvs:List (PyData×PyData)} (h1:rk.view e2=some k) (h2:aC e2 i=some (.dict kvs)) (h3:hk6 k=true) (h4:kvs.length < sizeLine) (q:N (fA e2 i (.dict (putD kvs k v)))):yr fD i v rk e2 N :=
 ⟨_,_,_,h1,h2,by show (if hk6 k=true/\kvs.length < sizeLine then some (PyData.dict (putD kvs k v)) else none)=_;rw [Ht ⟨h3,h4⟩],q⟩
open PySem PySem.Spec PyProof.Rows PySem.W
def Ev (lt:Nat->Nat->Bool) (n:Nat) {α:Type}:KasT α->(α->Prop)->Prop
 | .ret a,R=>R a
 | .ask i j k,R=>i < n/\j < n/\Ev lt n (k (lt i j)) R
theorem fc {lt:Nat->Nat->Bool} {n:Nat} {α β:Type} {f:α->KasT β} {R:β->Prop} {S:α->Prop} (h2:∀ a,S a->Ev lt n (f a) R):∀ {t:KasT α},Ev lt n t S->Ev lt n (t.bind f) R
 | .ret a,h=>h2 a h
 | .ask i j k,h=>⟨h.1,h.2.1,fc h2 h.2.2⟩
theorem A0 {lt:Nat->Nat->Bool} {n:Nat} {α:Type} {cmp:Nat->Nat->(Bool->Shared->Prop)->Shared->Prop} {Q:α->Shared->Prop} {R:α->Prop} {s:Shared} (hc:∀ i j (C:Bool->Shared->Prop),i < n->j < n->C (lt i j) s->cmp i j C s) (hq:∀ a,R a->Q a s):∀ {t:KasT α},Ev lt n t R->t.kasWp cmp Q s
 | .ret a,h=>hq a h
 | .ask i j k,h=>hc i j _ h.1 h.2.1 (A0 hc hq h.2.2)
theorem Ev.mono {lt:Nat->Nat->Bool} {n:Nat} {α:Type} {R S:α->Prop}:∀ {t:KasT α},Ev lt n t R->(∀ a,R a->S a)->Ev lt n t S
 | .ret a,h,q=>q a h
 | .ask i j k,h,q=>⟨h.1,h.2.1,Ev.mono h.2.2 q⟩
structure Ord (lt:Nat->Nat->Bool) (n:Nat):Prop where
 irr:∀ i,lt i i=false
 tr:∀ i j k,lt i j=true->lt j k=true->lt i k=true
 tot:∀ i j,i < n->j < n->i≠j->lt i j=false->lt j i=true
noncomputable def at_ (p:Array Nat) (i:Nat):Nat:=p.getD i 0
def Up (lt:Nat->Nat->Bool) (p:Array Nat) (m:Nat):Prop:=∀ i,i+1 < m->lt (at_ p i) (at_ p (i+1))=true
def Dn_ (lt:Nat->Nat->Bool) (p:Array Nat) (m:Nat):Prop:=∀ i,i+1 < m->lt (at_ p (i+1)) (at_ p i)=true
section
variable {lt:Nat->Nat->Bool} {n:Nat} {p:Array Nat}
theorem nJ {q:Array Nat} {i j:Nat} (h:p[i]?=q[j]?):at_ p i=at_ q j:=by
 unfold at_;rw [Ic,Ic,h]
def Pm (n:Nat) (p:Array Nat):Prop:=p.Perm (List.range n).toArray
theorem Pm.size (h:Pm n p):p.size=n:=by
 have:=Array.Perm.size_eq h;simpa using this
theorem Pm.bd (h:Pm n p) (h1:1<=n) (i:Nat):at_ p i < n:=by
 unfold at_;rw [Ic];by_cases hi:i < p.size
 ·rw [HG hi];have:p[i]∈(List.range n).toArray:=(Array.Perm.mem_iff h).mp (Array.getElem_mem hi);simpa using this
 ·rw [JB (by omega)];exact h1
theorem Pm.ne (h:Pm n p) {i j:Nat} (hi:i < n) (hj:j < n) (hn:i≠j):at_ p i≠at_ p j:=by
 have nd:p.toList.Nodup:=by
  have:=Jm.mp h;rw [this.nodup_iff];simpa using List.nodup_range
 have hs:=h.size;unfold at_;rw [Ic,Ic,HG (show i < p.size by omega),HG (show j < p.size by omega)];intro z;have z:p[i]=p[j]:=z;exact hn ((ID (by rw [HL];omega) nd).mp (by rw [Ik,Ik,HG (show i < p.size by omega),HG (show j < p.size by omega),z]))
theorem Up.all (O:Ord lt n) {m:Nat} (h:Up lt p m) {i j:Nat} (hij:i < j) (hj:j < m):lt (at_ p i) (at_ p j)=true:=by
 induction j with
 | zero=>omega
 | succ j ih =>
  by_cases e:i=j
  ·subst e;exact h i hj
  ·exact O.tr _ _ _ (ih (by omega) (by omega)) (h j hj)
theorem Up.succ {m:Nat} (h:Up lt p m) (h1:1<=m) (e:lt (at_ p (m - 1)) (at_ p m)=true):Up lt p (m+1):=by
 intro i hi;by_cases z:i+1 < m
 ·exact h i z
 ·have:i=m - 1:=by omega
  subst this;rw [show m - 1+1=m by omega];exact e
theorem Dn_.succ {m:Nat} (h:Dn_ lt p m) (h1:1<=m) (e:lt (at_ p m) (at_ p (m - 1))=true):Dn_ lt p (m+1):=by
 intro i hi;by_cases z:i+1 < m
 ·exact h i z
 ·have:i=m - 1:=by omega
  subst this;rw [show m - 1+1=m by omega];exact e
theorem qI (O:Ord lt n) (P:Pm n p):∀ (f m:Nat),1<=m->m+f=n->Up lt p m->Ev lt n (kas_asc p f m) fun r=>m<=r/\r<=n/\Up lt p r/\(r < n->lt (at_ p r) (at_ p (r - 1))=true)
 | 0,m,h1,hm,hu=>⟨Hl _,by omega,hu,fun z=>by omega⟩
 | f+1,m,h1,hm,hu=>by
  unfold kas_asc;refine ⟨P.bd (by omega) m,P.bd (by omega) (m - 1),?_⟩;show Ev lt n (if lt (at_ p m) (at_ p (m - 1))=true then _ else _) _;split
  ·rename_i c;exact ⟨Hl _,by omega,hu,fun _=>c⟩
  ·rename_i c;have c':=O.tot _ _ (P.bd (by omega) m) (P.bd (by omega) (m - 1)) (P.ne (by omega) (by omega) (by omega)) (Bool.eq_false_iff.mpr c);have:=qI O P f (m+1) (by omega) (by omega) (hu.succ h1 c');exact Ev.mono this fun r h=>⟨by omega,h.2⟩
theorem rh (O:Ord lt n) (P:Pm n p):∀ (f m:Nat),1<=m->m+f=n->Dn_ lt p m->Ev lt n (kas_desc f p m 0) fun r=>r.1=p/\r.2.2=0/\m<=r.2.1/\r.2.1<=n/\Dn_ lt p r.2.1
 | 0,m,h1,hm,hu=>⟨rfl,rfl,Hl _,show m<=n by omega,hu⟩
 | f+1,m,h1,hm,hu=>by
  unfold kas_desc;refine ⟨P.bd (by omega) m,P.bd (by omega) (m - 1),?_⟩;show Ev lt n (if lt (at_ p m) (at_ p (m - 1))=true then _ else _) _;split
  ·rename_i c;rw [Hv (by omega)];exact Ev.mono (rh O P f (m+1) (by omega) (by omega) (hu.succ h1 c)) fun r h=>⟨h.1,h.2.1,by omega,h.2.2.2⟩
  ·rename_i c;have c':=O.tot _ _ (P.bd (by omega) m) (P.bd (by omega) (m - 1)) (P.ne (by omega) (by omega) (by omega)) (Bool.eq_false_iff.mpr c);refine ⟨P.bd (by omega) (m - 1),P.bd (by omega) m,?_⟩;show Ev lt n (if lt (at_ p (m - 1)) (at_ p m)=true then _ else _) _;rw [Ht c'];exact ⟨rfl,rfl,Hl _,show m<=n by omega,hu⟩
theorem AN {m:Nat} (hs:m<=p.size) (h:Dn_ lt p m):Up lt (kas_rev p 0 m) m:=by
 intro i hi;have e:∀ k,k < m->at_ (kas_rev p 0 m) k=at_ p (m - 1 - k):=by
  intro k hk;refine nJ ?_;unfold kas_rev;rw [getElem?_mirror_all hs,Ht ⟨Ia _,hk⟩,Nat.zero_add]
 rw [e i (by omega),e (i+1) hi];have:=h (m - 1 - (i+1)) (by omega)
 rwa [show m - 1 - (i+1)+1=m - 1 - i by omega] at this
theorem Pm.rev (h:Pm n p) (i j:Nat):Pm n (kas_rev p i j):=(mirror_perm _ _ _ _).trans h
theorem wa (O:Ord lt n) (P:Pm n p) {m:Nat} (h1:1<=m) (hm:m<=n) (hd:Dn_ lt p m):Ev lt n (kas_tail3 m n p) fun r=>Pm n r.2/\r.1<=n/\Up lt r.2 r.1:=by
 unfold kas_tail3;refine fc ?_ (qI O (P.rev 0 m) (n - m) m h1 (by omega) (AN (by rw [P.size];exact hm) hd));rintro r ⟨_,h1,h2,_⟩;exact ⟨P.rev 0 m,h1,h2⟩
theorem tw (O:Ord lt n) (P:Pm n p) (hn:1<=n):Ev lt n (kas_count n p) fun r=>Pm n r.2/\r.1<=n/\Up lt r.2 r.1:=by
 unfold kas_count;refine fc ?_ (qI O P (n - 1) 1 (Hl _) (by omega) (fun i hi=>by omega));rintro m ⟨m1,mn,hu,hx⟩;split
 ·exact ⟨P,mn,hu⟩
 ·rename_i c;have hm:m < n:=by
   have:m≠n:=fun z=>c (by rw [z];exact Iu n);omega
  split
  ·refine ⟨P.bd hn 0,P.bd hn (m - 1),?_⟩;show Ev lt n (if lt (at_ p 0) (at_ p (m - 1))=true then _ else _) _;rw [Ht (hu.all O (by omega) (by omega))];exact ⟨P,mn,hu⟩
  ·have:m=1:=by omega
   subst this;unfold kas_descPart;refine fc ?_ (rh O P (n - (1+1)) (1+1) (by omega) (by omega) ?_)
   ·rintro ⟨q,m,z⟩ ⟨rfl,rfl,h1,h2,h3⟩;rw [Hv (by exact HW 0)];exact wa O P (by omega) h2 h3
   ·intro i hi;have:i=0:=by omega
    subst this;exact hx hm
theorem jx (O:Ord lt n) (P:Pm n p) {k:Nat} (hk:k < n) (hu:Up lt p k):∀ (f l r:Nat),r<=k->r - l<=f->l<=r->(∀ i,i < l->lt (at_ p i) (at_ p k)=true)->(∀ i,r<=i->i < k->lt (at_ p k) (at_ p i)=true)->Ev lt n (kas_place p k f l r) fun z=>z<=k/\(∀ i,i < z->lt (at_ p i) (at_ p k)=true)/\∀ i,z<=i->i < k->lt (at_ p k) (at_ p i)=true
 | 0,l,r,hr,hf,hlr,h1,h2=>⟨by omega,h1,fun i a b=>h2 i (by omega) b⟩
 | f+1,l,r,hr,hf,hlr,h1,h2=>by
  unfold kas_place;split
  ·exact ⟨by omega,h1,fun i a b=>h2 i (by omega) b⟩
  ·have hm:(l+r) / 2 < r:=by omega
   have hl:l<=(l+r) / 2:=by omega
   refine ⟨P.bd (by omega) k,P.bd (by omega) _,?_⟩;show Ev lt n (if lt (at_ p k) (at_ p ((l+r) / 2))=true then _ else _) _;generalize (l+r) / 2=m at hm hl;split
   ·rename_i c;refine jx O P hk hu f l m (by omega) (by omega) hl h1 fun i a b=>?_;by_cases e:m=i
    ·subst e;exact c
    ·exact O.tr _ _ _ c (hu.all O (by omega) b)
   ·rename_i c;have c':=O.tot _ _ (P.bd (by omega) k) (P.bd (by omega) m) (P.ne hk (by omega) (by omega)) (Bool.eq_false_iff.mpr c);refine jx O P hk hu f (m+1) r hr (by omega) (by omega) (fun i a=>?_) h2;by_cases e:i=m
    ·subst e;exact c'
    ·exact O.tr _ _ _ (hu.all O (by omega) (by omega)) c'
theorem By {k l:Nat} (hk:k < p.size) (hl:l<=k) (hu:Up lt p k) (h1:∀ i,i < l->lt (at_ p i) (at_ p k)=true) (h2:∀ i,l<=i->i < k->lt (at_ p k) (at_ p i)=true):Up lt (bubble p k (k - l)) (k+1):=by
 have e:∀ i,i<=k->at_ (bubble p k (k - l)) i=if i=l then at_ p k else if l < i then at_ p (i - 1) else at_ p i:=by
  intro i hi;have g:=getElem?_bubble hk (k - l) (by omega) i;rw [show k - (k - l)=l by omega] at g;split at g
  ·rename_i z;rw [Ht z];exact nJ g
  ·rename_i z;rw [Hv z];split at g
   ·rename_i y;rw [Ht y.1];exact nJ g
   ·rename_i y;rw [Hv (fun x=>y ⟨x,hi⟩)];exact nJ g
 intro i hi;rw [e i (by omega),e (i+1) (by omega)];rcases Nat.lt_trichotomy (i+1) l with z | z | z
 ·rw [Hv (by omega),Hv (by omega),Hv (by omega),Hv (by omega)];exact hu i (by omega)
 ·rw [Hv (by omega),Hv (by omega),Ht z];exact h1 i (by omega)
 ·rw [Hv (show ¬i+1=l by omega),Ht z,Nat.add_sub_cancel];split
  ·rename_i y;subst y;exact h2 i (Hl _) (by omega)
  ·rw [Ht (by omega)];have:=hu (i - 1) (by omega)
   rwa [show i - 1+1=i by omega] at this
theorem vJ (O:Ord lt n):∀ (f:Nat) (p:Array Nat) (k:Nat),Pm n p->k+f=n->Up lt p k->Ev lt n (kas_bin f p k) fun q=>Pm n q/\Up lt q n
 | 0,p,k,P,hk,hu=>⟨P,(show k=n by omega)▸hu⟩
 | f+1,p,k,P,hk,hu=>by
  unfold kas_bin;refine fc ?_ (jx O P (by omega) hu k 0 k (Hl _) (by omega) (Ia _) (fun i z=>by omega) (fun i a b=>by omega));rintro l ⟨hl,h1,h2⟩;exact vJ O f _ (k+1) ((bubble_perm _ _ _).trans P) (by omega) (By (by rw [P.size];omega) hl hu h1 h2)
theorem wV (O:Ord lt n) (hn:1<=n):Ev lt n (kas_sort n) fun q=>Pm n q/\Up lt q n:=by
 unfold kas_sort;refine fc ?_ (tw O (Array.Perm.refl _) hn);rintro ⟨m,q⟩ ⟨P,hm,hu⟩;show Ev lt n (if m < n then kas_bin (n - max m 1) q (max m 1) else .ret q) _;split
 ·refine vJ O _ q _ P (by omega) ?_;intro i hi;exact hu i (by omega)
 ·have:m=n:=by have:m<=n:=hm;omega
  subst this;exact ⟨P,hu⟩
end
open PySem PySem.Spec PyProof.Rows PySem.W
section
variable {P:Program} {w:World} {A:Around} {E:Value->Shared->Prop} {s:Shared} {d:Addr} {es:Array DictEntry} {ep:Nat}
def OkD (d:Addr) (es:Array DictEntry) (ep:Nat) (h:Heap):Prop:=∃ od,h.get? d=some od/\od.ExactDict/\od.data=.dict es ep
def EV (es:Array DictEntry) (i:Nat) (v:Value):Prop:=∃ e,es[i]?=some e/\v=e.key
theorem yZ (hh:A.handled=none) (I:Addr) (hne:d≠I):Walks P w A I [I,d] [I] es.size (EV es) (fun i h=>h.IsKeyIter I d i es.size ep/\OkD d es ep h) where
 sub:=fun b hb=>by simp at hb;simp [hb]
 frame:=fun _ _ _ st hk=>⟨st.1.at fun o e=>hk I (by simp) o e,let ⟨od,g,r⟩:=st.2;⟨od,hk d (by simp) _ g,r⟩⟩
 item:=fun i s Q E hi st hQ=>by
  obtain ⟨it,od,g1,g2,g3⟩:=st;refine Bd it g1 g3 (HG hi) fun h' it' sb=>?_;exact hQ _ h' s.toks ⟨_,HG hi,rfl⟩ ⟨it',od,(sb.2 d hne).trans g1,g2,g3⟩ fun b o hb e=>(sb.2 b (fun z=>hb (by simp [z]))).trans e
 done:=fun s Q E st hQ=>by
  obtain ⟨it,od,g1,g2,g3⟩:=st;exact Dg hh it g1 g3 (Hl _) fun h' eb=>hQ h' s.toks fun b o hb e=>eb b o (fun z=>hb (by simp [z])) e
 self:=fun _ _ _ _ st hQ=>wpAny_pyIter_keyiter st.1 hQ
theorem FZ (lo:(d==sysModules)=false):KdlSrc P w "dict" d d es.size (EV es) (OkD d es ep) where
 type:=fun _ ⟨od,g1,g2,_⟩=>⟨od,g1,g2.1⟩
 there:=fun _ ⟨od,g1,_⟩=>⟨Hw g1,Hw g1⟩
 keep:=fun _ _ ⟨od,g1,r⟩ hk=>⟨od,hk d (.inl rfl) _ g1,r⟩
 notList:=by decide
 notTuple:=by decide
 hint:=fun _ _ _ _ ⟨od,g1,g2,_⟩ hq=>kdl_hint_dict ⟨od,g1,g2.1⟩ hq
 iter:=fun _ s hh ⟨od,g1,g2,g3⟩=>⟨_,_,(fun _ _ hq=>zI lo g1 g2 g3 hq),yZ hh _ (HI (Hw g1)),⟨⟨_,HC _ rfl,rfl,rfl⟩,od,Hg _ g1,g2,g3⟩⟩
theorem Df {R:Result->Shared->Prop} (hh:A.handled=none) (lo:(d==sysModules)=false) (ok:OkD d es ep s.heap) (hz:es.size<=sizeLine) {S:Addr} (ne:S≠d) (gS:s.heap.get? S=some { cls:=.type "list", data:=.seq #[] })
  (h:∀ h' tk acc' c',(∀ b o,b≠S->s.heap.get? b=some o->h'.get? b=some o)->h'.get? S=some { cls:=.type "list", dict:=none,data:=.seq acc' c',slots:=#[] }->ItemsOf (EV es) acc' es.size->R (.ok (.ret (.ref S))) { s with heap:=h',toks:=tk }) :
  codeAny (model P w) A (.builtin "list.__iadd__" ⟨[.ref S,.ref d],[]⟩) R s:=by
 refine Je F.entry_list_iadd ?_;rw [Jd F.plain_list_iadd _];show wpAny _ A.in1 (Builtin.List.listExtendWith (.ref S) (.ref d) (.ref S)) _ _ _;exact kdl_extend (FZ lo) hh ok S ne ne (.ref S) 0 gS h hz
theorem D9 {Q:List Value->Shared->Prop} (hh:A.handled=none) (lo:(d==sysModules)=false) (ok:OkD d es ep s.heap) (hz:es.size<=sizeLine)
  (h:∀ vs h' tk,vs=(es.toList.map (·.key))->s.heap.objs.size < h'.objs.size->(∀ b o,s.heap.get? b=some o->h'.get? b=some o)->Q vs { s with heap:=h',toks:=tk }) :
  wpAny (model P w) A (collect (.ref d)) Q E s:=by
 obtain ⟨od,ho,g2,g3⟩:=id ok;unfold collect;refine Ha (wpAny_runValue (Je F.entry_proto_collect ?_));rw [Jd F.plain_proto_collect _];show wpAny _ A.in1 (newList []>>=fun l=>again (.builtin "list.__iadd__" ⟨[l,.ref d],[]⟩)) _ _ s;refine Ha (Ip ?_);have hlt:d < s.heap.objs.size:=Hw ho;have ne:s.heap.objs.size≠d:=Jh hlt;have g1:OkD d es ep (s.heap.push { cls:=.type "list", data:=.seq ([]:List Value).toArray }):=⟨od,Hg _ ho,g2,g3⟩;have gS:(s.heap.push { cls:=.type "list", data:=.seq ([]:List Value).toArray }).get? s.heap.objs.size=some { cls:=.type "list", data:=.seq ([]:List Value).toArray }:=HC _ rfl;refine He ⟨plainId_quiet F.plain_list_iadd _,Df (s:={ s with heap:=s.heap.push { cls:=.type "list", data:=.seq ([]:List Value).toArray } }) hh lo g1 hz ne gS fun h' tk acc' c' hk hS' hacc=>?_⟩;show wpAny _ A (load s.heap.objs.size>>=_) _ _ _;refine Ha (wpAny_load hS' ?_);refine He ?_;show Q acc'.toList _;refine h _ h' tk ?_ (Hw hS') fun b o e=>hk b o (HI (Hw e)) (Hg _ e);apply List.ext_getElem?;intro j;rw [Ik,Hi,Ik];rcases Jx j es.size with z | z
 ·have zj:j < acc'.size:=by rw [hacc.1];exact z
  obtain ⟨e,h1,h2⟩:=hacc.2 j _ (HG zj);rw [HG zj,h1,h2];rfl
 ·rw [JB (by rw [hacc.1];exact z),JB z];rfl
end
open PySem PySem.Spec PyProof.Rows PySem.W
section
variable {P:Program} {w:World} {A:Around} {E:Value->Shared->Prop} {s:Shared} {a kS:Addr} {vs ks:List Value} {f:Value} {e1:Nat} {R:PySem.Fin->Shared->Prop}
theorem z0 {n:Nat} {J:List Value->Shared->Prop} {body:Value->PUnit->Sem (ForInStep PUnit)}
  (hb:∀ x ks (s:Shared),ks.length < n->vs[ks.length]?=some x->J ks s->wpAny (model P w) A (body x ⟨⟩) (fun r s'=>r=.yield ⟨⟩/\∃ k,J (ks++[k]) s') E s):∀ (r ks:List Value) (s:Shared),ks.length+r.length=n->vs.drop ks.length=r->J ks s ->
   wpAny (model P w) A (forIn r PUnit.unit body) (fun _ s'=>∃ ks,ks.length=n/\J ks s') E s
 | [],ks,s,hl,hr,h=>by
  rw [List.forIn_nil];exact He ⟨ks,by simpa using hl,h⟩
 | x :: r,ks,s,hl,hr,h=>by
  rw [Hx] at hl;rw [List.forIn_cons];have hx:vs[ks.length]?=some x:=by
   have:(vs.drop ks.length)[0]?=some x:=by rw [hr];rfl
   rwa [List.getElem?_drop,Nat.add_zero] at this
  refine Ha (HP (hb x ks s (by omega) hx h) (fun q s' hq=>?_) fun _ _ x=>x);obtain ⟨rfl,k,h2⟩:=hq;refine z0 hb r (ks++[k]) s' (by rw [Hq,Ja];omega) ?_ h2;rw [Hq,Ja,<-List.drop_drop,hr];rfl
theorem EO {J:List Value->Shared->Prop} (h64:vs.length < 64)
  (step:∀ x ks (s:Shared),vs[ks.length]?=some x->ks.length < 64->J ks s->wpAny (model P w) A (call f [x]) (fun k s'=>(∃ e,s'.heap.get? kS=some (seqObj "list" (List.toArray ks) e))/\J (ks++[k]) { s' with heap:=s'.heap.update kS (Obj.mapSeq (·.push k)) }) (fun _ _=>False) s)
  (hJ:∀ ks s,J ks s->∃ e,s.heap.get? kS=some (seqObj "list" (List.toArray ks) e))
  (fin:∀ ks (s:Shared),ks.length=vs.length->J ks s->wpAny (model P w) A (ksk_end a false vs.toArray e1 (.ref kS) (List.toArray ks)) R E s) (h:J [] s) :
  wpAny (model P w) A (ksk_rest a f false vs.toArray e1 (.ref kS)) R E s:=by
 unfold ksk_rest;refine Ha (IH ?_);rw [List.forIn_toArray];refine Ha (HP (z0 (n:=vs.length) (vs:=vs) (J:=J) (fun x ks s' hl hx hj=>?_) vs [] s (by simp) (by simp) h) (fun _ s' hd=>?_) fun _ _ x=>x)
 ·refine Ha (wpAny_attempt (HP (step x ks s' hx (by omega) hj) (fun k s'' hk=>?_) fun _ _ hF=>hF.elim));obtain ⟨⟨e,g⟩,hj'⟩:=hk;try dsimp only
  refine Ha (listUpdate_at g rfl ?_ (by rw [Hr,Io];omega) (HJ (Nat.le_of_eq (Array.size_push ..)) (by rw [Hr,Io];omega)));exact He ⟨rfl,k,hj'⟩
 ·obtain ⟨ks,hl,hj⟩:=hd;obtain ⟨e,g⟩:=hJ ks s' hj;try dsimp only
  refine Ha (listItems_at g rfl ?_);exact fin ks s' hl hj
theorem Bn {st:SortSt} {e:Nat} {out:List Value} (hout:(arrOf st).map (·.2)=List.toArray out) (hz:out.length < 64) (hkz:ks.length < 64) (hf:failedOf st=none) (hne:a≠kS)
  (gk:s.heap.get? kS=some (seqObj "list" (List.toArray ks) e)) (ga:s.heap.get? a=some (seqObj "list" #[] e1))
  (h:R (.done (.ret .none)) { s with heap:=(s.heap.update kS (Obj.mapSeq fun _=>(#[]:Array Value))).update a (Obj.mapSeq fun _=>List.toArray out) }):wpAny (model P w) A (ksk_tail a false e1 (.ref kS) st) R E s:=by
 have ga':(s.heap.update kS (Obj.mapSeq fun _=>(#[]:Array Value))).get? a=some (seqObj "list" #[] e1):=(Ih _ _ (Ne.symm hne)).trans ga;unfold ksk_tail;try dsimp only
 rw [hout];refine Ha (listUpdate_at gk rfl ?_ (by rw [Hr,Io];omega) (Ia _));refine Ha (wpAny_letGo ?_);refine Ha (seqEpoch_at ga' rfl ?_);refine Ha (listUpdate_at ga' rfl ?_ (Ia _) (by show (List.toArray out).size<=_;rw [Hr,Io];omega));rw [hf];simp only [bne_self_eq_false,Iw,IG];exact He h
theorem Ga {e:Nat} {κ:SortKind} {lt:Nat->Nat->Bool} (hl:ks.length=vs.length) (h64:vs.length < 64) (hne:a≠kS)
  (gk:s.heap.get? kS=some (seqObj "list" (List.toArray ks) e)) (ga:s.heap.get? a=some (seqObj "list" #[] e1))
  (hk:2<=vs.length->∀ Q:SortKind->Shared->Prop,Q κ s->wpAny (model P w) A (keyKind' (List.toArray ks)) Q (fun _ _=>False) s)
  (hc:∀ i j (C:Bool->Shared->Prop),i < vs.length->j < vs.length->C (lt i j) s->kas_ask P w A κ ks i j C s) (O:Ord lt vs.length)
  (h:∀ p,Pm vs.length p->Up lt p vs.length->R (.done (.ret .none)) { s with heap:=(s.heap.update kS (Obj.mapSeq fun _=>(#[]:Array Value))).update a (Obj.mapSeq fun _=>List.toArray (p.toList.map fun i=>vs.getD i Value.none)) }) :
  wpAny (model P w) A (ksk_end a false vs.toArray e1 (.ref kS) (List.toArray ks)) R E s:=by
 unfold ksk_end;dsimp only;rw [Hv HQ,Hv HQ];by_cases h2:vs.length < 2
 ·have hs:vs.toArray.size < 2:=by rw [Hr];exact h2
  rw [Ht hs,Ht hs];refine Ha (He ?_);show wpAny _ _ (pure (PUnit.unit,SortSt.mk' general' (ks.toArray.zip vs.toArray) #[] 7 none)>>=_) _ _ _;refine Ha (He ?_);dsimp only;have er:(List.toArray (List.range vs.length)).map (kas_item (ks.toArray.zip vs.toArray))=ks.toArray.zip vs.toArray:=by
   have e:=kas_range (ks.toArray.zip vs.toArray)
   rwa [show (ks.toArray.zip vs.toArray).size=vs.length by simp [hl]] at e
  refine Bn (st:=SortSt.mk' general' (ks.toArray.zip vs.toArray) #[] 7 none) (kat_snds hl (p:=(List.range vs.length).toArray) er.symm) (by simpa using h64) (by omega) rfl hne gk ga (h _ (Array.Perm.refl _) fun i hi=>by omega)
 ·have hs:¬vs.toArray.size < 2:=by rw [Hr];exact h2
  rw [Hv hs,Hv hs];refine Ha (HP (hk (by omega) (fun κ' s'=>κ'=κ/\s'=s) ⟨rfl,rfl⟩) (fun κ' s0 hk'=>?_) fun _ _ x=>x.elim);obtain ⟨rfl,rfl⟩:=hk'
  refine Ha (HP (kat_run (Q:=fun st' s'=>∃ p:Array Nat,p.size=vs.length/\arrOf st'=p.map (kas_item (ks.toArray.zip vs.toArray))/\failedOf st'=none/\(Pm vs.length p/\Up lt p vs.length)/\s'=s0) (G:=fun p s'=>(Pm vs.length p/\Up lt p vs.length)/\s'=s0)
   hl (by omega) h64 (fun p' st' s' a1 a2 a3 a4=>⟨p',a1,a2,a3,a4⟩) (A0 hc (fun p hp=>⟨hp,rfl⟩) (wV O (by omega)))) ?_ fun _ _ x=>x)
  rintro ⟨⟨⟩,st'⟩ s' ⟨p,hp,har,hf,⟨h1,h2'⟩,rfl⟩;dsimp only;exact Bn (kat_snds hl har) (by rw [Hb,HL,hp];exact h64) (by omega) hf hne gk ga (h p h1 h2')
theorem Aj {d g:Addr} {es:Array DictEntry} {ep:Nat} {Q:Value->Shared->Prop} (hh:A.handled=none) (lo:(d==sysModules)=false) (ok:OkD d es ep s.heap) (hz:es.size < 64)
  (h:∀ vs D kS e1 h' tk,vs=es.toList.map (·.key)->s.heap.objs.size<=D->D < kS->(∀ b o,s.heap.get? b=some o->h'.get? b=some o)->h'.get? D=some (seqObj "list" #[] e1)->h'.get? kS=some (seqObj "list" #[] 0) ->
   ∀ R:PySem.Fin->Shared->Prop,(∀ s',Q (.ref D) s'->R (.done (.ret .none)) s')->wpAny (model P w) A.in1.in1 (ksk_rest D (.ref g) false vs.toArray e1 (.ref kS)) R (fun _ _=>False) { s with heap:=h',toks:=tk }) :
  wpAny (model P w) A (call (.builtin "sorted") [.ref d] [(Str.ofString "key", .ref g)]) Q E s:=by
 refine call_function_entry_kw kind_sorted plain_sorted entry_sorted (ksk_s1 _ _) ?_;unfold Builtin.«sorted»
 refine Ha (m:=checkCount "sorted" 1 1 _) (He ?_);refine Ha (D9 hh lo ok (by rw [Io];omega) fun vs h1 tk ev hsz hk=>?_);have hvl:vs.length < 64:=by rw [ev,Hb,HL];exact hz
 refine Ha (wpAny_newList ?_ (by rw [Io];omega));have hoL:(h1.push (seqObj "list" vs.toArray 0)).get? h1.objs.size=some (seqObj "list" vs.toArray 0):=HC _ rfl;refine Ha (HR (wpAny_call_entry_kw slot_list_sort ⟨_,hoL,rfl⟩ entry_list_sort ?body (ksk_l1 _ _)))
 case body =>
  show wpAny (model P w) A.in1.in1 (Builtin.«list.sort» ⟨[.ref h1.objs.size],[(Str.ofString "key", .ref g)]⟩) _ _ _
  rw [ksk_t1];unfold ksk_tree;obtain ⟨e1,ho1⟩:∃ e1,((h1.push (seqObj "list" vs.toArray 0)).update h1.objs.size (Obj.mapSeq fun _=>(#[]:Array Value))).get? h1.objs.size=some (seqObj "list" #[] e1):=⟨_,get?_update_seq hoL fun _=>#[]⟩;refine Ha (listItems_at hoL rfl ?_);refine Ha (listUpdate_at hoL rfl ?_ (by rw [Hr,Io];omega) (Ia _));refine Ha (seqEpoch_at ho1 rfl ?_);refine Ha (wpAny_newTuple ?_ (by show vs.length<=_;rw [Io];omega));refine Ha (wpAny_newList ?_ (Ia _));refine HR ?_;have hks:(((h1.push (seqObj "list" vs.toArray 0)).update h1.objs.size (Obj.mapSeq fun _=>(#[]:Array Value))).push (seqObj "tuple" vs.toArray 0)).objs.size=h1.objs.size+2:=by
   rw [size_push',Heap.size_update,size_push']
  refine HP (h vs h1.objs.size (((h1.push (seqObj "list" vs.toArray 0)).update h1.objs.size (Obj.mapSeq fun _=>(#[]:Array Value))).push (seqObj "tuple" vs.toArray 0)).objs.size e1
   ((((h1.push (seqObj "list" vs.toArray 0)).update h1.objs.size (Obj.mapSeq fun _=>(#[]:Array Value))).push (seqObj "tuple" vs.toArray 0)).push (seqObj "list" #[] 0)) tk ev (Jy hsz) (by rw [hks];exact Nat.lt_succ_of_lt (Ju _)) (fun b o e=>?_)
   (Hg _ (Hg _ ho1)) (HC _ rfl) _ fun s' hq=>?_) (fun _ _ z=>z) fun _ _ z=>z.elim
  ·have hb:b≠h1.objs.size:=HI (Hw (hk b o e));exact Hg _ (Hg _ ((Ih _ _ (Ne.symm hb)).trans (Hg _ (hk b o e))))
  ·exact ⟨_,rfl,He ⟨_,rfl,hq⟩⟩
end
open PySem PySem.Spec PyProof.Rows PySem.W
abbrev Ky:=Int×Int×Str
noncomputable def ltK (x y:Ky):Bool:=if x.1=y.1 then (if x.2.1=y.2.1 then decide (x.2.2.cps.toList < y.2.2.cps.toList) else decide (x.2.1 < y.2.1)) else decide (x.1 < y.1)
section
variable {P:Program} {w:World} {A:Around} {E:Value->Shared->Prop} {s:Shared}
theorem BG {x y:Addr} {a b:Ky} {t1 t2 t3 u1 u2 u3:Tok} {C:Bool->Shared->Prop} (hx:IsTup s.heap x #[.int a.1 t1,.int a.2.1 t2,.str a.2.2 t3]) (hy:IsTup s.heap y #[.int b.1 u1,.int b.2.1 u2,.str b.2.2 u3]) (h:C (ltK a b) s) :
  wpAny (model P w) A (keyLt' (tuples' true) (.ref x) (.ref y)) C E s:=by
 obtain ⟨ox,gx,cx,n,dx⟩:=hx;obtain ⟨oy,gy,cy,k,dy⟩:=hy;unfold ltK at h;refine kat_lt gx dx gy dy ?_;show KatLex P w A true _ C [(.int a.1 t1,.int b.1 u1),(.int a.2.1 t2,.int b.2.1 u2),(.str a.2.2 t3,.str b.2.2 u3)] 0 s;refine kat_cons (wpAny_eqBool_int (kat_go (fun e=>kat_yes ?_) fun e=>kat_no (oneLt_int ?_)))
 ·rw [Ht (IW.mp e)] at h;refine kat_cons (wpAny_eqBool_int (kat_go (fun e=>kat_yes ?_) fun e=>kat_no (kat_one _ _ (lt_int ?_))))
  ·rw [Ht (IW.mp e)] at h;refine kat_cons (eqBool_str (kat_go (fun e=>kat_yes ?_) fun e=>kat_no (kat_one _ _ (lt_str ?_))))
   ·have e:=IW.mp e;rw [e,HM (Jl _)] at h;exact kat_nil h
   ·exact h
  ·rw [Hv (fun z=>by rw [z,Iu] at e;cases e)] at h;exact h
 ·rw [Hv (fun z=>by rw [z,Iu] at e;cases e)] at h;exact h
end
theorem jG (x:Ky):ltK x x=false:=by
 unfold ltK;rw [Ht rfl,Ht rfl];exact HM (Jl _)
theorem r8 {x y z:Ky} (h1:ltK x y=true) (h2:ltK y z=true):ltK x z=true:=by
 unfold ltK at *;split at h1 <;> split at h2
 ·rename_i a b;rw [Ht (a.trans b)];split at h1 <;> split at h2
  ·rename_i c d;rw [Ht (c.trans d)];exact HD (List.lt_trans (HE h1) (HE h2))
  ·rename_i c d;rw [Hv (by rw [c];exact d),c];exact h2
  ·rename_i c d;rw [Hv (by rw [<- d];exact c),<-d];exact h1
  ·have:=HE h1;have:=HE h2;rw [Hv (by omega)];exact HD (by omega)
 ·rename_i a b;rw [Hv (by rw [a];exact b),a];exact h2
 ·rename_i a b;rw [Hv (by rw [<- b];exact a),<-b];exact h1
 ·have:=HE h1;have:=HE h2;rw [Hv (by omega)];exact HD (by omega)
theorem mK {x y:Ky} (hn:x≠y) (h:ltK x y=false):ltK y x=true:=by
 obtain ⟨x1,x2,x3⟩:=x;obtain ⟨y1,y2,y3⟩:=y;unfold ltK at *;dsimp only at *;split at h
 ·rename_i a;rw [Ht a.symm];split at h
  ·rename_i b;rw [Ht b.symm];refine HD ?_;have h:=IF h
   have:y3.cps.toList≠x3.cps.toList:=fun z=>hn (by
    have:y3=x3:=by cases x3;cases y3;simpa using Array.toList_inj.mp z
    rw [a,b,this])
   exact Iz fun n=>this (List.le_antisymm (List.not_lt.mp h) (List.not_lt.mp n))
  ·rename_i b;have h:=IF h;rw [Hv (fun z=>b z.symm)];exact HD (by omega)
 ·rename_i a;have h:=IF h;rw [Hv (fun z=>a z.symm)];exact HD (by omega)
open PySem PySem.Spec PyProof.Rows PySem.W
section
variable {X:Cx} {pins:List (Addr×Obj)} {σ:List (Option V)} {H:Hp} {s:Shared} {h':Heap}
theorem Inv.pB {a:Addr} {o:Obj} (I:Inv X ((a,o) :: pins) σ H s):∀ x c,X.env.cells.lookup x=some c->c≠a:=fun x c e z=>by
 obtain ⟨g,_,_,_,n⟩:=I.pin (a,o) (Hn _ Hu);obtain ⟨v,oc,h1,h2⟩:=I.cell x c e;subst z;rw [g] at h1;cases h1;first | exact n _ h2 | exact n _ h2.1 | exact n _ h2.2
theorem Inv.tV {p:Addr×Obj} (I:Inv X (p :: pins) σ H s):Inv X pins σ H s:=I.bZ fun q hq=>I.pin q (Hn _ (Hm _ hq))
theorem Inv.CH {a:Addr} {o o':Obj} (I:Inv X ((a,o) :: pins) σ H s) (ha:X.s₀.heap.objs.size<=a) (hp:∀ p∈X.pn++pins,p.1≠a) (hs:∀ b u,b≠a->s.heap.get? b=some u->h'.get? b=some u) (g':h'.get? a=some o') (hc:∀ v,o'.data≠.cell v) :
  Inv X ((a,o') :: pins) σ H { s with heap:=h' }:=by
 obtain ⟨g,n,L,f,_⟩:=I.pin (a,o) (Hn _ Hu);have I2:Inv X pins σ H { s with heap:=h' }:=I.tV.turned (t':=s.toks) hs n L (.inr ha) I.pB hp;refine I2.bZ fun p hp=>?_;rcases Hz.mp hp with rfl | hp
 ·exact ⟨g',n,L,f,hc⟩
 ·exact I2.pin p (Hn _ hp)
theorem Inv.GN {D k:Addr} {o:HO} (I:Inv X pins σ H s) (hD:X.s₀.heap.objs.size<=D) (hk:X.s₀.heap.objs.size<=k) (nD:H D=none) (nk:H k=none) (LD:D≠X.env.locals) (Lk:k≠X.env.locals)
  (cD:∀ x c,X.env.cells.lookup x=some c->c≠D) (ck:∀ x c,X.env.cells.lookup x=some c->c≠k) (pD:∀ p∈X.pn++pins,p.1≠D) (pk:∀ p∈X.pn++pins,p.1≠k)
  (hs:∀ b u,b≠D->b≠k->s.heap.get? b=some u->h'.get? b=some u) (new:aR X.prog X.w (upd H D o) h' D o):Inv X pins σ (upd H D o) { s with heap:=h' }:=by
 have nd:∀ b u,H b=some u->b≠D:=fun b u e z=>by rw [z,nD] at e;cases e
 have nk':∀ b u,H b=some u->b≠k:=fun b u e z=>by rw [z,nk] at e;cases e
 have hc:∀ b,b ∉ [D,k]->b≠D/\b≠k:=fun b hb=>⟨fun z=>hb (by simp [z]),fun z=>hb (by simp [z])⟩;refine I.step (t':=s.toks) (g':=s.gens) (d':=s.drawn) (ch:=[D,k]) (fun b hb=>?_) (fun b o _ _ hb e _=>hs b o (hc b hb).1 (hc b hb).2 e) (fun b o _ _ hb e _=>⟨o.slots,hs b o (hc b hb).1 (hc b hb).2 e⟩) (fun b o hb _ n=>by rw [af (hc b hb).1];exact n)
  (fun b o hb e=>⟨o,hs b o (hc b hb).1 (hc b hb).2 e⟩) (fun b xs e=>by rw [af (nd b _ e)];exact e) (fun b o u e=>by rw [af (nd b _ e)];exact e) (fun b ps e=>⟨#[],by rw [af (nd b _ e),e];simp⟩) (fun m hm=>?_) (fun b u e=>?_) I.bare
 ·rcases Hz.mp hb with rfl | hb
  ·exact ⟨.inr hD,LD,cD,pD⟩
  ·rw [Hj.mp hb];exact ⟨.inr hk,Lk,ck,pk⟩
 ·obtain ⟨o,es,ep,ho,r⟩:=hm;exact ⟨o,es,ep,hs _ o (Ne.symm LD) (Ne.symm Lk) ho,r⟩
 ·by_cases z:b=D
  ·subst z;rw [ah] at e;cases e;exact new
  ·rw [af z] at e;refine (I.hok b u e).kO (fun c v hc q=>?_) (fun c q=>by rw [af (nd c _ q)];exact q) fun c xs q=>by rw [af (nd c _ q)];exact q
   rcases hc with rfl | hc
   ·exact hs _ _ z (nk' _ _ e) q
   ·exact hs _ _ (nd c _ hc) (nk' c _ hc) q
end
open PySem PySem.Spec PyProof.Rows PySem.W
def KyT (K:Fg) (H:Hp) (u:V) (k:Ky):Prop:=∃ t,u=.ref t/\SqT K H t [.int k.1,.int k.2.1,.str k.2.2]
theorem KyT.same {K:Fg} {H H':Hp} {u:V} {k:Ky} (h:KyT K H u k) (e:ax H H'):KyT K H' u k:=by
 obtain ⟨t,rfl,h⟩:=h;refine ⟨t,rfl,?_⟩;rcases h with (h | ⟨o,h⟩) | h
 ·exact .inl (.inl (e _ _ h))
 ·exact .inl (.inr ⟨o,e _ _ h⟩)
 ·exact .inr h
noncomputable def valAt (xs:List (PyData×V×V)) (i:Nat):V:=((xs[i]?).map (·.2.1)).getD .non
abbrev Cx.in2 (X:Cx):Cx:={ X with A:=X.A.in1.in1,xe:=fun _ _=>False }
section
variable {X:Cx} {pins:List (Addr×Obj)} {σ:List (Option V)} {H:Hp} {s:Shared}
theorem Inv.in2 (I:Inv X pins σ H s):Inv X.in2 pins σ H s :=
 ⟨⟨I.ok.mod,I.ok.kind,I.ok.glob,I.ok.blt,I.ok.above,I.ok.inj,I.ok.has,I.ok.cab,I.ok.hd,I.ok.frames,I.ok.stk,I.ok.exf,I.ok.bs,I.ok.bsz,I.ok.wR,I.ok.yn,I.ok.oP,I.ok.frf⟩,I.os,I.bare,I.base,I.loc,I.cell,I.free,I.fB,I.pin,I.hok,I.len⟩
theorem Inv.GU (I:Inv X.in2 pins σ H s):Inv X pins σ H s :=
 ⟨⟨I.ok.mod,I.ok.kind,I.ok.glob,I.ok.blt,I.ok.above,I.ok.inj,I.ok.has,I.ok.cab,I.ok.hd,I.ok.frames,I.ok.stk,I.ok.exf,I.ok.bs,I.ok.bsz,I.ok.wR,I.ok.yn,I.ok.oP,I.ok.frf⟩,I.os,I.bare,I.base,I.loc,I.cell,I.free,I.fB,I.pin,I.hok,I.len⟩
def KyH (h:Heap) (u:Value) (k:Ky):Prop:=∃ t t1 t2 t3,u=.ref t/\IsTup h t #[.int k.1 t1,.int k.2.1 t2,.str k.2.2 t3]
theorem Inv.key (I:Inv X pins σ H s) {v:V} {u:Value} {k:Ky} (r:RelV v u) (h:KyT X.K H v k):KyH s.heap u k:=by
 obtain ⟨t,rfl,h⟩:=h;obtain ⟨its,r2,h2,_⟩:=I.tuple h;cases r2 with
 | cons a r2 =>
  cases r2 with
  | cons b r2 =>
   cases r2 with
   | cons c r2 =>
    cases r2;obtain ⟨t1,rfl⟩:=a;obtain ⟨t2,rfl⟩:=b;obtain ⟨t3,rfl⟩:=c;exact ⟨t,t1,t2,t3,r,h2⟩
theorem Av {h:Heap}:∀ {us:List Value},(∀ u∈us,∃ k,KyH h u k)->∃ fs,KatTups h us fs/\fs.length=us.length/\∀ v∈fs,∃ i t,v=.int i t
 | [],_=>⟨[],trivial,rfl,fun _ z=>nomatch z⟩
 | u :: us,hu=>by
  obtain ⟨k,t,t1,t2,t3,rfl,o,g,c,n,d⟩:=hu u Hu;obtain ⟨fs,h1,h2,h3⟩:=Av fun v hv=>hu v (Hm _ hv);refine ⟨.int k.1 t1 :: fs,KatTups.cons g c d rfl h1,by rw [Hx,h2,Hx],fun v hv=>?_⟩;rcases Hz.mp hv with rfl | hv
  ·exact ⟨_,_,rfl⟩
  ·exact h3 v hv
end
open PySem PySem.Spec PyProof.Rows
noncomputable def Fi:PyData->Option Ky | .tuple [.int i,.int j,.str x]=>some (i,j,x) | _=>none
theorem DmP.get {K:Fg} {F:Addr->Prop} {H:Hp}:∀ {kvs:List (PyData×PyData)} {xs:List (PyData×V×V)} {i:Nat} {x:PyData×V×V},DmP K F H kvs xs->xs[i]?=some x->(kvs.map (·.1))[i]?=some x.1/\Dm K F H x.1 x.2.1
 | [],xs,i,x,h,e=>by rw [show xs=[] from h] at e;simp at e
 | (k,d) :: kvs,xs,i,x,h,e=>by
  obtain ⟨j,v,r,rfl,h1,h2,h3,h4⟩:=h;cases i with
  | zero=>simp at e;subst e;exact ⟨rfl,h2⟩
  | succ i=>have:=DmP.get h4 (show r[i]?=some x by simpa using e);exact ⟨by simpa using this.1,this.2⟩
theorem DmP.iy {K:Fg} {F:Addr->Prop} {H:Hp}:∀ {kvs:List (PyData×PyData)} {xs:List (PyData×V×V)},DmP K F H kvs xs->xs.length=kvs.length
 | [],xs,h=>by rw [show xs=[] from h];rfl
 | (k,d) :: kvs,xs,h=>by
  obtain ⟨j,v,r,rfl,h1,h2,h3,h4⟩:=h;rw [Hx,DmP.iy h4,Hx]
open PySem PySem.Spec PyProof.Rows
noncomputable def GZ:PyData->List PyData->Option PR
 | .str z,[.str y]=>match Builtin.Str.occurrences z y 0 z.length 1 with | i :: _=>some (.dat (.int i)) | []=>none
 | _,_=>none
inductive Lxy:List Value->List Value->Bool->Prop
 | nil:Lxy [] [] false
 | ii (a b:Int) (t u:Tok) {r q:List Value} {z:Bool} (h:Lxy r q z):Lxy (.int a t :: r) (.int b u :: q) (if a=b then z else decide (a < b))
 | ss (a b:Str) (t u:Tok) {r q:List Value} {z:Bool} (h:Lxy r q z):Lxy (.str a t :: r) (.str b u :: q) (if a=b then z else decide (a.cps.toList < b.cps.toList))
theorem Lxy.len:∀ {xs ys:List Value} {z:Bool},Lxy xs ys z->xs.length=ys.length
 | _,_,_,.nil=>rfl
 | _,_,_,.ii _ _ _ _ h=>by rw [Hx,h.len,Hx]
 | _,_,_,.ss _ _ _ _ h=>by rw [Hx,h.len,Hx]
theorem ua {x y:Value} {xs ys:List Value} {z:Bool} (h:Lxy (x :: xs) (y :: ys) z) (A:Around) (s:Shared):∃ e z',SeqAt.EqAt A s x y e/\Lxy xs ys z'/\(e=true->z=z')/\(e=false->∀ (prog:Program) (w:World) (E:Value->Shared->Prop) (Q:Value->Shared->Prop),Q (.bool z) s->wpAny (model prog w) A (richCompare .Lt x y) Q E s):=by
 cases h with
 | ii a b t u h =>
  refine ⟨(a==b),_,SeqAt.EqAt.int_int a t b u,h,fun e=>by rw [Ht (IW.mp e)],fun e prog w E Q q=>?_⟩;rw [Hv (fun z=>by rw [z,Iu] at e;cases e)] at q;exact (PyProof.Rows.lt_int q:wpAny (model prog w) A (compareOp .Lt (.int a t) (.int b u)) Q E s)
 | ss a b t u h =>
  refine ⟨(a==b),_,SeqAt.EqAt.str_str a t b u,h,fun e=>by rw [Ht (IW.mp e)],fun e prog w E Q q=>?_⟩;rw [Hv (fun z=>by rw [z,Iu] at e;cases e)] at q;exact (PyProof.Rows.lt_str q:wpAny (model prog w) A (compareOp .Lt (.str a t) (.str b u)) Q E s)
section
open PySem.SeqAt
open PySem.AutoSeq1 (wpAny_loadPart')
open PySem.MeetsSeq PySem.MeetsSeq2 PySem.MeetsSeq3
theorem sf (l b:Addr) (items items2:Array Value) (n n2:Nat) (dd dd2:Option Addr) (sl sl2:Array (Option Value)) (z:Bool) (hi:Lxy items.toList items2.toList z) :
  Meets (Builtin.«tuple.__lt__» ⟨[.ref l,.ref b],[]⟩)
   (fun _ R s=>s.heap.get? l=some { cls:=.type "tuple", dict:=dd,data:=.seq items n,slots:=sl }/\s.heap.get? b=some { cls:=.type "tuple", dict:=dd2,data:=.seq items2 n2,slots:=sl2 } /\
    R (.ok (.ret (.bool z))) s) :=
 .of_wp fun prog w A R s h=>by
  obtain ⟨hp,g,d,tk,os⟩:=s;obtain ⟨hl,hb,h⟩:=h;have f2:=AutoSeq1.sub_tuple_tuple;have zl:items.size=items2.size:=by simpa using hi.len
  wp_walk using wpAny_loadPart' hl,wpAny_loadPart' hb,II _ (fun rest b s'=>b.1=none/\s'=⟨hp,g,d,tk,os⟩/\∃ (vs ws:List Value) (z':Bool),rest=vs.zip ws/\Lxy vs ws z'/\R (.ok (.ret (.bool z'))) ⟨hp,g,d,tk,os⟩) _
  case turn =>
   rintro ⟨y,x⟩ rest b s' ⟨hb',rfl,vs,ws,z',hz,hv,hR⟩;cases vs with
   | nil=>rw [List.zip_nil_left] at hz;cases hz
   | cons v vs =>
    cases ws with
    | nil=>rw [List.zip_nil_right] at hz;cases hz
    | cons w1 ws =>
     rw [List.zip_cons_cons] at hz;injection hz with hyx hrest;injection hyx with hy hx;subst hy hx;obtain ⟨e,z2,he,h2,h3,h4⟩:=ua hv A.in1 ⟨hp,g,d,tk,os⟩;refine Ha (he prog w _ _ ?_);cases e with
     | true =>
      rw [h3 rfl] at hR
      wp_walk
      exact ⟨rfl,rfl,_,_,_,hrest,h2,hR⟩
     | false =>
      have hri:=h4 rfl prog w
      wp_walk using hri
      exact ⟨_,rfl,by simpa using hR⟩
  case fin =>
   rintro ⟨b1,b2⟩ s' ⟨hb',rfl,vs,ws,z',hz,hv,hR⟩;simp only at hb';subst hb';have hv:z'=decide (items.size < items2.size):=by
    cases hv with
    | nil=>exact (HM (by omega)).symm
    | ii a b t u h=>rw [List.zip_cons_cons] at hz;cases hz
    | ss a b t u h=>rw [List.zip_cons_cons] at hz;cases hz
   rw [hv] at hR
   wp_walk
   exact ⟨_,rfl,by simpa [Builtin.Tuple.tupleCompareSizes] using hR⟩
  case h =>
   exact ⟨rfl,rfl,items.toList,items2.toList,z,rfl,hi,h⟩
end
theorem qw {prog:Program} {w:World} {A:Around} {E:Value->Shared->Prop} {s:Shared} {l b:Addr} {items items2:Array Value} {z:Bool} {Q:Value->Shared->Prop} (hl:IsTup s.heap l items) (hb:IsTup s.heap b items2) (hi:Lxy items.toList items2.toList z)
  (hu:A.units < cLine) (h:Q (.bool z) s):wpAny (model prog w) A (compareOp .Lt (.ref l) (.ref b)) Q E s:=by
 obtain ⟨⟨cls,dd,data,sl⟩,ho,hc,n,hd⟩:=id hl;obtain ⟨⟨cls2,dd2,data2,sl2⟩,ho2,hc2,n2,hd2⟩:=id hb;simp only at hc hd hc2 hd2;subst hc hd hc2 hd2;exact richCompare_meets_room (op:=.Lt) ⟨_,ho,rfl⟩ ⟨_,ho2,rfl⟩ PySem.F.slot_tuple_lt PySem.F.entry_tuple_lt (PySem.F.args_tuple_lt_2 _ _) (sf l b items items2 n n2 dd dd2 sl sl2 z hi)
  ⟨ho,ho2,show Value.bool z≠Value.notImplemented/\Q (.bool z) s from ⟨(fun x=>nomatch x),h⟩⟩ hu
inductive LxV:List V->List V->Bool->Prop
 | nil:LxV [] [] false
 | ii (a b:Int) {r q:List V} {z:Bool} (h:LxV r q z):LxV (.int a :: r) (.int b :: q) (if a=b then z else decide (a < b))
 | ss (a b:Str) {r q:List V} {z:Bool} (h:LxV r q z):LxV (.str a :: r) (.str b :: q) (if a=b then z else decide (a.cps.toList < b.cps.toList))
theorem LxV.vals:∀ {xs ys:List V} {z:Bool} {us vs:List Value},LxV xs ys z->Vals xs us->Vals ys vs->Lxy us vs z
 | _,_,_,_,_,.nil,h1,h2=>by cases h1;cases h2;exact .nil
 | _,_,_,_,_,.ii a b h,h1,h2=>by
  cases h1 with
  | cons x r =>
   cases h2 with
   | cons y q =>
    obtain ⟨t,rfl⟩:=x;obtain ⟨u,rfl⟩:=y;exact .ii a b t u (h.vals r q)
 | _,_,_,_,_,.ss a b h,h1,h2=>by
  cases h1 with
  | cons x r =>
   cases h2 with
   | cons y q =>
    obtain ⟨t,rfl⟩:=x;obtain ⟨u,rfl⟩:=y;exact .ss a b t u (h.vals r q)
def DI (K:Fg):R2:=fun x y H Q=>∃ a b xs ys z,x=.ref a/\y=.ref b/\SqT K H a xs/\SqT K H b ys/\LxV xs ys z/\Q (.bl z) H
theorem Bj {X:Cx} (hu:X.A.units < cLine):OpR X (compareOp .Lt) (DI X.K):=by
 intro pins s σ H x y v u Q I rx ry h;obtain ⟨a,b,xs,ys,z,rfl,rfl,ha,hb,hz,q⟩:=h;cases (show v=Value.ref a from rx);cases (show u=Value.ref b from ry);obtain ⟨its,r,p,_⟩:=I.tuple ha;obtain ⟨its2,r2,p2,_⟩:=I.tuple hb;exact qw p p2 (by simpa using hz.vals r r2) hu ⟨.bl z,H,I,rfl,q⟩
noncomputable def yx:List PyData->List PyData->Option Bool
 | [],[]=>some false
 | .int a :: r,.int b :: q=>(yx r q).map fun z=>if a=b then z else decide (a < b)
 | .str a :: r,.str b :: q=>(yx r q).map fun z=>if a=b then z else decide (a.cps.toList < b.cps.toList)
 | _,_=>none
theorem Az {K:Fg} {F:Addr->Prop} {H:Hp}:∀ {ds es:List PyData} {xs ys:List V} {z:Bool},yx ds es=some z->DmL K F H ds xs->DmL K F H es ys->LxV xs ys z
 | ds,es,xs,ys,z,h,h1,h2=>by
  induction ds generalizing es xs ys z with
  | nil =>
   cases es with
   | nil=>cases h;rw [show xs=[] from h1,show ys=[] from h2];exact .nil
   | cons e es=>simp [yx] at h
  | cons d ds ih =>
   unfold yx at h;split at h
   ·rename_i h0;cases h0
   ·rename_i a r b q e1;obtain ⟨z',hz,rfl⟩:=Hs.mp h;cases e1;obtain ⟨v,rr,rfl,hv,h1⟩:=h1;obtain ⟨w,qq,rfl,hw,h2⟩:=h2;cases (show v=.int a from hv);cases (show w=.int b from hw);exact .ii a b (ih _ _ _ _ hz h1 h2)
   ·rename_i a r b q e1;obtain ⟨z',hz,rfl⟩:=Hs.mp h;cases e1;obtain ⟨v,rr,rfl,hv,h1⟩:=h1;obtain ⟨w,qq,rfl,hw,h2⟩:=h2;cases (show v=.str a from hv.1);cases (show w=.str b from hw.1);exact .ss a b (ih _ _ _ _ hz h1 h2)
   ·cases h
noncomputable def ET:PyData->PyData->Option PR
 | .tuple ds,.tuple es=>(yx ds es).map fun z=>.dat (.bool z)
 | _,_=>none
noncomputable def Fh:Prm:=Prm.two DI ET fun K F H x y u v pr Q hf hx hy hd q=>by
 unfold ET at hf;split at hf
 ·obtain ⟨z,hz,rfl⟩:=Hs.mp hf;obtain ⟨a,xs,rfl,sa,_,da⟩:=hx;obtain ⟨b,ys,rfl,sb,_,db⟩:=hy;exact ⟨a,b,xs,ys,z,rfl,rfl,sa,sb,Az hz da db,q _ H (ax.rf H) rfl⟩
 ·cases hf
theorem yd {X:Cx} (hu:X.A.units < cLine):OpR X (compareOp .Lt) (fun x y=>Fh.r X.K [x,y]):=Bj hu
open PySem PySem.Spec PyProof.Rows
def Gb (avs:List AV) (e:En) (QI:List PyData->Option Nat->En->Prop):Prop:=∃ x y xs ys,avs=[x,y]/\roL e x=some xs/\roL e y=some ys/\QI ((xs.zip ys).map fun p=>.tuple [p.1,p.2]) none e
theorem Gg {gd:List PyData} {as:XA} {env:En} {QI:List PyData->Option Nat->En->Prop} (h:WA gd as env fun avs e=>Gb avs e QI):WI gd (.zip as) env QI:=by
 obtain ⟨avs,e',h1,x,y,xs,ys,rfl,h3,h4,h2⟩:=h;exact ⟨_,_,_,by simp only [dI,h1,h3,h4],h2⟩
open PySem PySem.Spec PyProof.Rows PySem.W
structure KS where
 κ:Type
 dft:κ
 dec:DecidableEq κ
 lt:κ->κ->Bool
 irr:∀ x,lt x x=false
 tr:∀ {x y z},lt x y=true->lt y z=true->lt x z=true
 tot:∀ {x y},x≠y->lt x y=false->lt y x=true
 T:Fg->Hp->V->κ->Prop
 same:∀ {K H H' u k},T K H u k->ax H H'->T K H' u k
 Hh:Heap->Value->κ->Prop
 key:∀ {X:Cx} {pins:List (Addr×Obj)} {σ:List (Option V)} {H:Hp} {s:Shared} {v:V} {u:Value} {k:κ},Inv X pins σ H s->RelV v u->T X.K H v k->Hh s.heap u k
 ask:∀ {P:Program} {w:World} {A:Around} {E:Value->Shared->Prop} {s:Shared} {u v:Value} {a b:κ} {C:Bool->Shared->Prop},A.units+64 < cLine->Hh s.heap u a->Hh s.heap v b->C (lt a b) s->wpAny (model P w) A (keyLt' (tuples' true) u v) C E s
 kd:∀ {P:Program} {w:World} {A:Around} {E:Value->Shared->Prop} {s:Shared} {us:List Value} {Q:SortKind->Shared->Prop},(∀ u∈us,∃ k,Hh s.heap u k)->0 < us.length->Q (tuples' true) s->wpAny (model P w) A (keyKind' us.toArray) Q E s
 of:PyData->Option κ
 ofT:∀ {K:Fg} {F:Addr->Prop} {H:Hp} {d:PyData} {u:V} {k:κ},of d=some k->Dm K F H d u->T K H u k
noncomputable def Ah (S:KS) (ks:List S.κ) (i j:Nat):Bool:=S.lt (ks.getD i S.dft) (ks.getD j S.dft)
theorem FN (S:KS) {ks:List S.κ} (h:ks.Nodup):Ord (Ah S ks) ks.length where
 irr:=fun i=>S.irr _
 tr:=fun i j k=>S.tr
 tot:=fun i j hi hj hn e=>S.tot (fun z=>by
  rw [Ig,Ig,Hc hi,Hc hj] at z
  exact hn ((ID hi h).mp (by rw [Hc hi,Hc hj];exact congrArg some z))) e
def sv (S:KS) (K:Fg) (sp:Sp):List V->Hp->VK->Prop:=fun us H Q=>∃ (d:Addr) (ep:Nat) (xs:List (PyData×V×V)) (ks:List S.κ),us=[.ref d]/\H d=some (.dD ep xs)/\xs.length < 64/\ks.length=xs.length/\ks.Nodup /\
 (∀ (i:Nat) (x:PyData×V×V) (k:S.κ) (H':Hp),xs[i]?=some x->ks[i]?=some k->ax H H'->sp [x.2.1] H' (fun u H''=>ax H' H''/\S.T K H'' u k) E0) /\
 ∀ (H':Hp) (D:Addr) (p:Array Nat),ax H H'->H' D=none->Pm xs.length p->Up (Ah S ks) p xs.length->Q (.ref D) (upd H' D (.lst (p.toList.map (valAt xs))))
section
variable {X:Cx} {pins:List (Addr×Obj)} {σ:List (Option V)} {H:Hp} {s:Shared}
theorem ot {S:KS} {k:Nat} {g:Addr} {fd:FuncData} {ps:List Str} {sp:Sp} {us:List V} {ws:List Value} {Q:VK} (F:aY X.prog X.w X.K X.mg X.base CX0 k g fd ps sp) (hr:c6 (k+2) X.A) (hb:Binds X.K fd ps [])
  (I:Inv X pins σ H s) (rw_:Vals us ws) (h:sv S X.K sp us H Q):wpAny (model X.prog X.w) X.A (call (.builtin "sorted") ws [(Str.ofString "key", .ref g)]) (EP X pins σ Q) X.xe s:=by
 obtain ⟨d,ep,xs,ks,rfl,ed,h64,kl,kn,hsp,q⟩:=h;cases rw_ with
 | cons r0 r1 =>
 cases r1;have r0:_=Value.ref d:=r0;subst r0;obtain ⟨z,hd,nd,o,es,g1,g2,g3,g4⟩:=(show aR X.prog X.w H s.heap d (.dD ep xs) from I.hok _ _ ed);have hsz:es.size=xs.length:=by rw [Im g4];simp
 refine Aj hr.hd hd ⟨o,g1,g2,g3⟩ (by rw [hsz];exact h64) fun vs D kS e1 h' tk ev hD hDk keep gD gk R hR=>?_;have vl:vs.length=xs.length:=by rw [ev,Hb,HL,hsz]
 have hkS:s.heap.objs.size<=kS:=HJ hD (Jy hDk);have rel:∀ (i:Nat) (x:PyData×V×V) (v:Value),xs[i]?=some x->vs[i]?=some v->RelV x.2.1 v:=by
  intro i x v hx hv;obtain ⟨en,h1,h2⟩:=bt g4 i x hx;rw [ev,Hi,h1] at hv;cases hv;exact h2.2.1
 have neD:∀ p∈X.pn++pins,p.1≠D:=fun p hp=>HI (Hy (Hw (I.pin p hp).1) hD);have nek:∀ p∈X.pn++pins,p.1≠kS:=fun p hp=>HI (Hy (Hw (I.pin p hp).1) hkS);have I0:Inv X.in2 ((kS,seqObj "list" (List.toArray []) 0) :: (D,seqObj "list" #[] e1) :: pins) σ H { s with heap:=h',toks:=tk }:=by
  have I0:=(I.kept (t':=tk) keep).in2;refine I0.bZ fun p hp=>?_;rcases Hz.mp hp with rfl | hp
  ·exact ⟨gk,I.hok.fresh hkS,Jh (Hy I.lt hkS),I.AZ hkS,fun v z=>nomatch z⟩
  ·rcases Hz.mp hp with rfl | hp
   ·exact ⟨gD,I.hok.fresh hD,Jh (Hy I.lt hD),I.AZ hD,fun v z=>nomatch z⟩
   ·exact I0.pin p (Hn _ hp)
 have szD:X.s₀.heap.objs.size<=D:=HJ I.sz hD;have szk:X.s₀.heap.objs.size<=kS:=HJ I.sz hkS;have pk:∀ p∈X.pn++(D,seqObj "list" #[] e1) :: pins,p.1≠kS:=fun p hp=>by
  rcases HK.mp hp with hp | hp
  ·exact nek p (HY _ hp)
  ·rcases Hz.mp hp with rfl | hp
   ·exact HI hDk
   ·exact nek p (Hn _ hp)
 refine EO (J:=fun ks' s=>∃ H' e,Inv X.in2 ((kS,seqObj "list" (List.toArray ks') e) :: (D,seqObj "list" #[] e1) :: pins) σ H' s/\ax H H'/\∀ i u,ks'[i]?=some u->∃ v k,RelV v u/\ks[i]?=some k/\S.T X.K H' v k) (by rw [vl];exact h64) ?_ ?_ ?_ ⟨H,0,I0,ax.refl _,fun i u z=>absurd z (by rw [show (([]:List Value)[i]?)=none from List.getElem?_nil];exact nofun)⟩
 ·rintro x ks' s' hx hl ⟨H',e,I',sm,hks⟩;have hi:ks'.length < xs.length:=by rw [<- vl];exact (Hd.mp hx).1
  have hxi:=Hc hi;have hki:=Hc (show ks'.length < ks.length by rw [kl];exact hi);refine HP (vK (X:=X.in2) (us:=[x]) (vs:=[xs[ks'.length].2.1]) F (hr.in1.in1) hb .nil yf I' (.cons (rel _ _ _ hxi hx) .nil) (hsp _ _ _ H' hxi hki sm)) (fun u s'' hu=>?_) fun _ _ z=>z;obtain ⟨v,H'',I'',rv,sm',ky⟩:=hu;have gk':=(I''.pin (kS,seqObj "list" (List.toArray ks') e) (Hn _ Hu)).1;have ea:(List.toArray ks').push u=List.toArray (ks'++[u]):=by simp
  obtain ⟨c2,hc2⟩:∃ c2,(s''.heap.update kS (Obj.mapSeq (·.push u))).get? kS=some (seqObj "list" (List.toArray (ks'++[u])) c2):=⟨_,by rw [<- ea];exact get?_update_seq gk' (·.push u)⟩;refine ⟨⟨e,gk'⟩,H'',c2,I''.CH szk pk (fun b o hb e=>(Ih _ _ (Ne.symm hb)).trans e) hc2 (fun v z=>nomatch z),sm.trans sm',fun i w hw=>?_⟩;rw [List.getElem?_append] at hw;split at hw
  ·obtain ⟨v',k',a1,a2,a3⟩:=hks i w hw;exact ⟨v',k',a1,a2,S.same a3 sm'⟩
  ·rename_i hge;have:i=ks'.length:=by
    have:=(Hd.mp hw).1;rw [Ja] at this;omega
   subst this;rw [Nat.sub_self] at hw;cases hw;exact ⟨v,_,rv,hki,ky⟩
 ·rintro ks' s' ⟨H',e,I',_⟩;exact ⟨e,(I'.pin (kS,seqObj "list" (List.toArray ks') e) (Hn _ Hu)).1⟩
 ·rintro ks' s' hl ⟨H',e,I',sm,hks⟩;have gk':=I'.pin (kS,seqObj "list" (List.toArray ks') e) (Hn _ Hu);have gD':=I'.pin (D,seqObj "list" #[] e1) (Hn _ (Hm _ Hu));have ky:∀ i,i < vs.length->S.Hh s'.heap (ks'.getD i Value.none) (ks.getD i S.dft):=by
   intro i hi;obtain ⟨v,k,a1,a2,a3⟩:=hks i _ (Hc (show i < ks'.length by rw [hl];exact hi));rw [Ig,Ig,a2,Hc (show i < ks'.length by rw [hl];exact hi)];exact S.key I' a1 a3
  refine Ga (κ:=tuples' true) (lt:=Ah S ks) hl (by rw [vl];exact h64) (HI hDk) gk'.1 gD'.1 (fun h2 Q' hq=>?_) (fun i j C hi hj hC=>?_) (by rw [vl,<-kl];exact FN S kn) fun p hp hu=>hR _ ?_
  ·refine S.kd (s:=s') (us:=ks') (fun u hu=>?_) (by omega) hq;obtain ⟨i,hi⟩:=Ij.mp hu;obtain ⟨v,k,a1,a2,a3⟩:=hks i u hi;exact ⟨k,S.key I' a1 a3⟩
  ·unfold kas_ask;exact S.ask (hr.in1.in1).units (ky i hi) (ky j hj) hC
  ·have I2:Inv X pins σ H' s':=I'.tV.tV.GU;rw [vl] at hp hu;have el:Vals (p.toList.map (valAt xs)) (p.toList.map fun i=>vs.getD i Value.none):=by
    have hb:∀ i∈p.toList,i < xs.length:=fun i hi=>by
     have:=(Jm.mp hp).mem_iff.mp hi;simpa using this
    revert hb;generalize p.toList=l;intro hb;induction l with
    | nil=>exact .nil
    | cons i l ih =>
     refine .cons ?_ (ih fun j hj=>hb j (Hm _ hj));have hi:=hb i Hu;unfold valAt;show RelV _ (vs.getD i Value.none);rw [Hc hi,Ig,Hc (show i < vs.length by rw [vl];exact hi)];exact rel i _ _ (Hc hi) (Hc (show i < vs.length by rw [vl];exact hi))
   have gDD:((s'.heap.update kS (Obj.mapSeq fun _=>(#[]:Array Value)))).get? D=some (seqObj "list" #[] e1):=(Ih _ _ (Jh hDk)).trans gD'.1;obtain ⟨c2,hc2⟩:∃ c2,((s'.heap.update kS (Obj.mapSeq fun _=>(#[]:Array Value))).update D (Obj.mapSeq fun _=>List.toArray (p.toList.map fun i=>vs.getD i Value.none))).get? D=some (seqObj "list" (List.toArray (p.toList.map fun i=>vs.getD i Value.none)) c2):=⟨_,get?_update_seq gDD fun _=>_⟩;refine ⟨.ref D,_,I2.GN (o:=.lst (p.toList.map (valAt xs))) szD szk gD'.2.1 gk'.2.1 gD'.2.2.1 gk'.2.2.1 (I'.tV.pB) I'.pB neD nek (fun b u b1 b2 e=>(Ih _ _ (Ne.symm b1)).trans ((Ih _ _ (Ne.symm b2)).trans e)) ⟨?_,_,c2,el,hc2⟩,rfl,q H' D p sm gD'.2.1 hp hu⟩;rw [Hb,HL,hp.size,Io];omega
end
section
variable {X:Cx} {k:Nat} {g:Addr} {fd:FuncData} {ps:List Str} {sp:Sp} {f:Str} {p pf pos kpos:Pos} {e:Expr} {te:TE}
theorem tH {S:KS} (F:aY X.prog X.w X.K X.mg X.base CX0 k g fd ps sp) (hr:c6 (k+2) X.A) (hb:Binds X.K fd ps []) (hgs:Gl X "sorted") (hms:X.mg "sorted" = none) (hv:bootBuiltins "sorted" = some (.builtin "sorted")) (hgf:Gl X f) (hmf:X.mg f=some (.ref g)) (hdf:(f==("__debug__" : Str))=false)
  (ha:PA X [e] (cT te ml)) (h1:PySem.W.isStarred e=false):PE X (.Call (.Name "sorted" p) [e] [⟨some "key", .Name f pf,kpos⟩] pos) (tCB (sv S X.K sp) (cT te ml)):=by
 intro pins s σ H Q I h;refine Ji (i7 I hgs hms hv ?_ (by decide) (by decide));refine callWith_kw (thn (ha pos pins s σ H _ I h) fun us s1 ⟨vs,H1,I1,r1,q1⟩=>?_) (by rw [aH h1];rfl) (by rw [aH h1];rfl) (by rfl) (by rfl);have pk:PK X [⟨some "key", .Name f pf,kpos⟩] (cT (tC (.ref g)) ml):=vV (qv hgf hmf rfl hdf) A7;refine thn (pk pos pins s1 σ H1 (fun zs H2=>zs=[.ref g]/\H2=H1) I1 ⟨rfl,rfl⟩) fun ws s2 ⟨zs,H2,I2,rz,e1,e2⟩=>?_;subst e1 e2;cases rz with
 | cons a b =>
  cases b;have a:_=Value.ref g:=a;subst a;exact ot F hr hb I2 r1 q1
end
namespace Sg
noncomputable def vo (S:KS) (f:Fn) (d:PyData):Option S.κ:=match f.F [d] with | some (.dat k,[])=>S.of k | _=>none
noncomputable def ju (S:KS) (f:Fn):List PyData->Option (List S.κ)
 | []=>some []
 | d :: ds=>match vo S f d,ju S f ds with | some k,some ks=>some (k :: ks) | _,_=>none
noncomputable def xj {S:KS} (x:S.κ×PyData):List (S.κ×PyData)->List (S.κ×PyData)
 | []=>[x]
 | y :: r=>if S.lt x.1 y.1=true then x :: y :: r else y :: xj x r
noncomputable def sO {S:KS}:List (S.κ×PyData)->List (S.κ×PyData)
 | []=>[]
 | x :: r=>xj x (sO r)
theorem f6 {S:KS} (x:S.κ×PyData):∀ l,(xj x l).Perm (x :: l)
 | []=>List.Perm.refl _
 | y :: r=>by
  unfold xj;split
  ·exact List.Perm.refl _
  ·exact ((f6 x r).cons y).trans (List.Perm.swap ..)
theorem d5 {S:KS}:∀ l:List (S.κ×PyData),(sO l).Perm l
 | []=>List.Perm.refl _
 | x :: r=>(f6 x _).trans ((d5 r).cons x)
theorem p8 {S:KS} (x:S.κ×PyData):∀ l,(∀ y∈l,x.1≠y.1)->l.Pairwise (fun a b=>S.lt a.1 b.1=true)->(xj x l).Pairwise fun a b=>S.lt a.1 b.1=true
 | [],_,_=>by simp [xj]
 | y :: r,hn,h=>by
  obtain ⟨h1,h2⟩:=Jk.mp h;unfold xj;split
  ·rename_i c;refine Jk.mpr ⟨fun b hb=>?_,h⟩;rcases Hz.mp hb with rfl | hb
   ·exact c
   ·exact S.tr c (h1 b hb)
  ·rename_i c;refine Jk.mpr ⟨fun b hb=>?_,p8 x r (fun z hz=>hn z (Hm _ hz)) h2⟩;rcases Hz.mp ((f6 x r).mem_iff.mp hb) with rfl | hb
   ·exact S.tot (hn y Hu) (Bool.eq_false_iff.mpr c)
   ·exact h1 b hb
theorem l8 {S:KS}:∀ l:List (S.κ×PyData),(l.map (·.1)).Nodup->(sO l).Pairwise fun a b=>S.lt a.1 b.1=true
 | [],_=>.nil
 | x :: r,h=>by
  obtain ⟨h1,h2⟩:=HZ.mp h;exact p8 x _ (fun y hy z=>h1 (Hk.mpr ⟨y,(d5 r).mem_iff.mp hy,z.symm⟩)) (l8 r h2)
theorem uP {S:KS} {ks:List S.κ} {ds:List PyData} {p:Array Nat} (hl:ks.length=ds.length) (hn:ks.Nodup) (hp:Pm ds.length p) (hu:Up (Ah S ks) p ds.length):(sO (ks.zip ds)).map (·.2)=p.toList.map fun i=>ds.getD i .none:=by
 have e1:(ks.zip ds).map (·.1)=ks:=by rw [List.map_fst_zip (Nat.le_of_eq hl)]
 have zl:(ks.zip ds).length=ds.length:=by rw [List.length_zip,hl,Nat.min_self]
 have O:Ord (Ah S ks) ds.length:=by rw [<- hl];exact FN S hn
 have row:p.toList.map (fun i=>(ks.getD i S.dft,ds.getD i .none))=sO (ks.zip ds):=by
  refine List.Perm.eq_of_pairwise (le:=fun a b=>S.lt a.1 b.1=true) (fun a b _ _ h1 h2=>?_) ?_ (l8 _ (by rw [e1];exact hn)) ?_
  ·have:=S.tr h1 h2;rw [S.irr _] at this;cases this
  ·rw [Jq,Jn];intro i j hi hj hij;have:=hu.all O hij (by rw [<- hp.size];simpa using hj);unfold at_ at this;rw [Ic,Ic,HG (by simpa using hi),HG (by simpa using hj)] at this;exact this
  ·refine (((Jm.mp hp).map _).trans ?_).trans (d5 _).symm;refine List.Perm.of_eq ?_;apply List.ext_getElem?;intro i;rw [List.toList_toArray,Hi];rcases Jx i ds.length with z | z
   ·have zk:i < ks.length:=by rw [hl];exact z
    rw [List.getElem?_range z,show (ks.zip ds)[i]?=some (ks[i],ds[i]) from List.getElem?_zip_eq_some.mpr ⟨Hc zk,Hc z⟩];simp [Ig,Hc (show i < ks.length by rw [hl];exact z),Hc z]
   ·rw [JN (by rw [Ie];exact z),JN (by rw [zl];exact z)];rfl
 rw [<- row,HX];rfl
theorem kP {S:KS} {f:Fn}:∀ {ds:List PyData} {ks:List S.κ},ju S f ds=some ks->ks.length=ds.length
 | [],ks,h=>by cases h;rfl
 | d :: ds,ks,h=>by
  unfold ju at h;split at h
  ·rename_i k ks' _ h2;cases h;rw [Hx,kP h2,Hx]
  ·cases h
theorem ke {S:KS} {f:Fn}:∀ {ds:List PyData} {ks:List S.κ} {i:Nat} {d:PyData} {k:S.κ},ju S f ds=some ks->ds[i]?=some d->ks[i]?=some k->vo S f d=some k
 | [],ks,i,d,k,h,h1,h2=>by simp at h1
 | e :: ds,ks,i,d,k,h,h1,h2=>by
  unfold ju at h;split at h
  ·rename_i k' ks' h3 h4;cases h;cases i with
   | zero=>simp at h1 h2;subst h1 h2;exact h3
   | succ i=>exact ke h4 (by simpa using h1) (by simpa using h2)
  ·cases h
noncomputable def nu (S:KS) (f:Fn):List PyData->Option PR
 | [.dict kvs]=>match ju S f (kvs.map (·.1)) with
  | some ks=>if kvs.length < 64/\@decide ks.Nodup (@List.nodupDecidable _ S.dec ks)=true then some (.frs (.list ((sO (ks.zip (kvs.map (·.1)))).map (·.2)))) else none
  | none=>none
 | _=>none
noncomputable def j4 (S:KS) (f:Fn) (hm:f.ms=[.dat]):Prm where
 r:=fun K=>sv S K (bz f K)
 f:=nu S f
 ok:=by
  intro K F H ds vs pr Q hf hv hF q;unfold nu at hf;split at hf
  ·rename_i kvs;split at hf
   ·rename_i ks hks;split at hf
    ·rename_i c;replace c:kvs.length < 64/\ks.Nodup:=⟨c.1,@of_decide_eq_true _ (_) c.2⟩;cases hf;obtain ⟨v,r,rfl,⟨a,rfl,ep,xs,ea,z,dp⟩,rfl⟩:=hv;have xl:=dp.iy;have kl:ks.length=(kvs.map (·.1)).length:=kP hks;have xk:xs.length=(kvs.map (·.1)).length:=by rw [xl,Hb]
     refine ⟨a,ep,xs,ks,rfl,ea,by rw [xl];exact c.1,by rw [kl,xk],c.2,fun i x k H' hx hk sm=>?_,fun H' D p sm hD hp hu=>?_⟩
     ·obtain ⟨d1,d2⟩:=dp.get hx;have kf:=ke hks d1 hk;unfold vo at kf;split at kf
      ·rename_i kd hFd;have d3:Dm K F H' x.1 x.2.1:=d2.pr (fun b o e _=>sm b o e) fun _ z=>z;refine ⟨F,[x.1],[],.dat kd,[],hFd,by rw [hm];exact ⟨d3,rfl⟩,fun b hb=>?_,fun v' H'' hs hr=>⟨fun b o e=>hs b o e (by simp),?_⟩⟩
       ·intro z;cases e:H b with
        | none=>exact hF b hb e
        | some o=>rw [sm b o e] at z;cases z
       ·exact S.ofT kf hr.1
      ·cases kf
     ·have hDn:H D=none:=sm.free hD;refine q _ _ (fun b o e=>?_) ⟨D,rfl,hDn,_,ah,?_,?_⟩
      ·have:b≠D:=fun z=>by rw [z,hDn] at e;cases e
       rw [af this];exact sm b o e
      ·rw [Hb,HL,hp.size];exact z
      ·rw [xk] at hp hu;rw [uP kl c.2 hp hu];have hb:∀ i∈p.toList,i < xs.length:=fun i hi=>by
        have:=(Jm.mp hp).mem_iff.mp hi;rw [xk];simpa using this
       have hU:∀ b,b≠D->upd H' D (.lst (p.toList.map (valAt xs))) b=H' b:=fun b hb=>af hb;generalize upd H' D (.lst (p.toList.map (valAt xs)))=H9 at hU;revert hb;generalize p.toList=l;intro hb;induction l with
       | nil=>exact rfl
       | cons i l ih =>
        have hi:=hb i Hu;obtain ⟨d1,d2⟩:=dp.get (Hc hi);refine ⟨_,_,rfl,?_,ih fun j hj=>hb j (Hm _ hj)⟩;show Dm K _ _ ((kvs.map (·.1)).getD i .none) (valAt xs i);unfold valAt;rw [Ig,d1,Hc hi];have d3:Dm K F H' xs[i].1 xs[i].2.1:=d2.pr (fun b o e _=>sm b o e) fun _ z=>z;refine (d3.fresh hD).pr (fun b o e _=>?_) fun _ z=>z;have:b≠D:=fun z=>by rw [z,hD] at e;cases e
        rw [hU b this];exact e
    ·cases hf
   ·cases hf
  ·cases hf
section
variable {X:Cx} {k:Nat} {g:Addr} {fd:FuncData} {ps:List Str} {fn:Fn} {f:Str} {p pf pos kpos:Pos} {e:Expr} {te:TE}
theorem vf (S:KS) (hm:fn.ms=[.dat]) (F:aY X.prog X.w X.K X.mg X.base CX0 k g fd ps (bz fn X.K)) (hr:c6 (k+2) X.A) (hb:Binds X.K fd ps []) (hgs:Gl X "sorted") (hms:X.mg "sorted" = none) (hv:bootBuiltins "sorted" = some (.builtin "sorted")) (hgf:Gl X f) (hmf:X.mg f=some (.ref g)) (hdf:(f==("__debug__" : Str))=false)
  (ha:JA X [e] (cT te ml)) (h1:PySem.W.isStarred e=false):JE X (.Call (.Name "sorted" p) [e] [⟨some "key", .Name f pf,kpos⟩] pos) (tCB ((j4 S fn hm).r X.K) (cT te ml)):=⟨tH F hr hb hgs hms hv hgf hmf hdf ha.h h1⟩
end
end Sg
abbrev Fy:=Str×Str×Ky
noncomputable def ltF (x y:Fy):Bool:=if x.1=y.1 then (if x.2.1=y.2.1 then ltK x.2.2 y.2.2 else decide (x.2.1.cps.toList < y.2.1.cps.toList)) else decide (x.1.cps.toList < y.1.cps.toList)
theorem qX (x:Fy):ltF x x=false:=by
 unfold ltF;rw [Ht rfl,Ht rfl];exact jG _
theorem v7 {x y:Str} (h:x.cps.toList=y.cps.toList):x=y:=by
 cases x;cases y;simpa using Array.toList_inj.mp h
theorem qr (x:Str):¬x.cps.toList < x.cps.toList:=Jl _
theorem u7 {x y z:Fy} (h1:ltF x y=true) (h2:ltF y z=true):ltF x z=true:=by
 obtain ⟨x1,x2,x3⟩:=x;obtain ⟨y1,y2,y3⟩:=y;obtain ⟨z1,z2,z3⟩:=z;unfold ltF at *;dsimp only at *;split at h1 <;> split at h2
 ·rename_i a b;rw [Ht (a.trans b)];split at h1 <;> split at h2
  ·rename_i c d;rw [Ht (c.trans d)];exact r8 h1 h2
  ·rename_i c d;rw [Hv (by rw [c];exact d),c];exact h2
  ·rename_i c d;rw [Hv (by rw [<- d];exact c),<-d];exact h1
  ·have:=List.lt_trans (HE h1) (HE h2);rw [Hv (fun e=>by rw [e] at this;exact qr _ this)];exact HD this
 ·rename_i a b;rw [Hv (by rw [a];exact b),a];exact h2
 ·rename_i a b;rw [Hv (by rw [<- b];exact a),<-b];exact h1
 ·have:=List.lt_trans (HE h1) (HE h2);rw [Hv (fun e=>by rw [e] at this;exact qr _ this)];exact HD this
theorem qi {x y:Str} (hn:¬x=y) (h:¬x.cps.toList < y.cps.toList):y.cps.toList < x.cps.toList :=
 Iz fun n=>hn (v7 (List.le_antisymm (List.not_lt.mp n) (List.not_lt.mp h)))
theorem pU {x y:Fy} (hn:x≠y) (h:ltF x y=false):ltF y x=true:=by
 obtain ⟨x1,x2,x3⟩:=x;obtain ⟨y1,y2,y3⟩:=y;unfold ltF at *;dsimp only at *;split at h
 ·rename_i a;rw [Ht a.symm];split at h
  ·rename_i b;rw [Ht b.symm];exact mK (fun z=>hn (by rw [a,b,z])) h
  ·rename_i b;rw [Hv (fun z=>b z.symm)];exact HD (qi b (IF h))
 ·rename_i a;rw [Hv (fun z=>a z.symm)];exact HD (qi a (IF h))
abbrev FyV (k:Fy):List V:=[.int k.2.2.1,.int k.2.2.2.1,.str k.2.2.2.2]
def FyT (K:Fg) (H:Hp) (u:V) (k:Fy):Prop:=∃ t t2,u=.ref t/\SqT K H t [.str k.1,.str k.2.1,.ref t2]/\SqT K H t2 (FyV k)/\PyData.strOk k.2.2.2.2=true
theorem nZ {K:Fg} {H H':Hp} {t:Addr} {xs:List V} (h:SqT K H t xs) (e:ax H H'):SqT K H' t xs:=by
 rcases h with (h | ⟨o,h⟩) | h
 ·exact .inl (.inl (e _ _ h))
 ·exact .inl (.inr ⟨o,e _ _ h⟩)
 ·exact .inr h
def FyH (h:Heap) (u:Value) (k:Fy):Prop:=∃ t t2 a1 a2 b1 b2 b3,u=.ref t/\IsTup h t #[.str k.1 a1,.str k.2.1 a2,.ref t2]/\IsTup h t2 #[.int k.2.2.1 b1,.int k.2.2.2.1 b2,.str k.2.2.2.2 b3]/\PyData.strOk k.2.2.2.2=true
theorem z8 {X:Cx} {pins:List (Addr×Obj)} {σ:List (Option V)} {H:Hp} {s:Shared} {v:V} {u:Value} {k:Fy} (I:Inv X pins σ H s) (r:RelV v u) (h:FyT X.K H v k):FyH s.heap u k:=by
 obtain ⟨t,t2,rfl,h,h',so⟩:=h;obtain ⟨its,r2,h2,_⟩:=I.tuple h;obtain ⟨its',r3,h3,_⟩:=I.tuple h';cases r2 with
 | cons a r2 =>
  cases r2 with
  | cons b r2 =>
   cases r2 with
   | cons c r2 =>
    cases r2;obtain ⟨t1,rfl⟩:=a;obtain ⟨t4,rfl⟩:=b;have c:_=Value.ref t2:=c;subst c;cases r3 with
    | cons a r3 =>
     cases r3 with
     | cons b r3 =>
      cases r3 with
      | cons c r3 =>
       cases r3;obtain ⟨q1,rfl⟩:=a;obtain ⟨q2,rfl⟩:=b;obtain ⟨q3,rfl⟩:=c;exact ⟨t,t2,t1,t4,q1,q2,q3,r,h2,h3,so⟩
noncomputable def kyD (k:Ky):PyData:=.tuple [.int k.1,.int k.2.1,.str k.2.2]
theorem qK (a b:Ky):PyData.eqv (kyD a) (kyD b)=true↔a=b:=by
 obtain ⟨a1,a2,a3⟩:=a;obtain ⟨b1,b2,b3⟩:=b;simp [kyD,PyData.eqv,PyData.eqvAll]
theorem og {h:Heap} {t:Addr} {k:Ky} {b1 b2 b3:Tok} (hx:IsTup h t #[.int k.1 b1,.int k.2.1 b2,.str k.2.2 b3]):∃ as,Reads h (.ref t) (kyD k) as:=by
 obtain ⟨o,h1,h2,n,h4⟩:=hx;exact ⟨_,.tuple h1 h2 h4 (.cons (.int _ _) (.cons (.int _ _) (.cons (.str _ _) .nil)))⟩
theorem g7 {k:Ky} (h:PyData.strOk k.2.2=true):SeqAt.shaped (kyD k)=true:=by
 have d:(kyD k).depth<=64:=by simp [kyD,PyData.depth,PyData.depthAll]
 have l:(kyD k).canLay0=true:=by simp [kyD,PyData.canLay0,PyData.canLayAll0,h]
 simp [SeqAt.shaped,l,d]
theorem yF {P:Program} {w:World} {A:Around} {E:Value->Shared->Prop} {s:Shared} {u v:Value} {a b:Fy} {C:Bool->Shared->Prop} (hu:A.units+64 < cLine) (hx:FyH s.heap u a) (hy:FyH s.heap v b) (h:C (ltF a b) s):wpAny (model P w) A (keyLt' (tuples' true) u v) C E s:=by
 obtain ⟨x,x',t1,t2,t3,t4,t5,rfl,hx,hx',ox⟩:=hx;obtain ⟨y,y',u1,u2,u3,u4,u5,rfl,hy,hy',oy⟩:=hy;obtain ⟨ox,gx,cx,n,dx⟩:=hx;obtain ⟨oy,gy,cy,k,dy⟩:=hy;unfold ltF at h;refine kat_lt gx dx gy dy ?_;show KatLex P w A true _ C [(.str a.1 t1,.str b.1 u1),(.str a.2.1 t2,.str b.2.1 u2),(.ref x',.ref y')] 0 s;refine kat_cons (eqBool_str (kat_go (fun e=>kat_yes ?_) fun e=>kat_no (oneLt_str ?_)))
 ·rw [Ht (IW.mp e)] at h;refine kat_cons (eqBool_str (kat_go (fun e=>kat_yes ?_) fun e=>kat_no (kat_one _ _ (lt_str ?_))))
  ·rw [Ht (IW.mp e)] at h;obtain ⟨as,ra⟩:=og (k:=a.2.2) hx';obtain ⟨bs,rb⟩:=og (k:=b.2.2) hy';refine kat_cons (SeqAt.eqAt_reads _ _ A s _ _ as bs ra rb (SeqAt.canLay_of_shaped (g7 ‹_›)) (SeqAt.canLay_of_shaped (g7 ‹_›)) (SeqAt.room_of_shaped (g7 ‹_›) hu) P w _ _ (kat_go (fun e=>kat_yes ?_) fun e=>kat_no (kat_one _ _ ?_)))
   ·have e:=(qK _ _).mp e;rw [e,jG] at h;exact kat_nil h
   ·have ne:a.2.2≠b.2.2:=fun z=>by rw [(qK _ _).mpr z] at e;cases e
    refine qw hx' hy' (.ii _ _ _ _ (.ii _ _ _ _ (.ss _ _ _ _ .nil))) (by omega) ?_;have el:(if a.2.2.1=b.2.2.1 then if a.2.2.2.1=b.2.2.2.1 then if a.2.2.2.2=b.2.2.2.2 then false else decide (a.2.2.2.2.cps.toList < b.2.2.2.2.cps.toList) else decide (a.2.2.2.1 < b.2.2.2.1) else decide (a.2.2.1 < b.2.2.1))=ltK a.2.2 b.2.2:=by
     unfold ltK;split
     ·split
      ·split
       ·rename_i z;rw [z,HM (Jl _)]
       ·rfl
      ·rfl
     ·rfl
    rw [el];exact h
  ·rw [Hv (fun z=>by rw [z,Iu] at e;cases e)] at h;exact h
 ·rw [Hv (fun z=>by rw [z,Iu] at e;cases e)] at h;exact h
theorem yR {h:Heap}:∀ {us:List Value},(∀ u∈us,∃ k,FyH h u k)->∃ fs,KatTups h us fs/\fs.length=us.length/\∀ v∈fs,∃ i t,v=.str i t
 | [],_=>⟨[],trivial,rfl,fun _ z=>nomatch z⟩
 | u :: us,hu=>by
  obtain ⟨k,t,t2,t1,a2,a3,a4,a5,rfl,⟨o,g,c,n,d⟩,_⟩:=hu u Hu;obtain ⟨fs,h1,h2,h3⟩:=yR fun v hv=>hu v (Hm _ hv);refine ⟨.str k.1 t1 :: fs,KatTups.cons g c d rfl h1,by rw [Hx,h2,Hx],fun v hv=>?_⟩;rcases Hz.mp hv with rfl | hv
  ·exact ⟨_,_,rfl⟩
  ·exact h3 v hv
noncomputable def FV:PyData->Option Fy | .tuple [.str a,.str b,.tuple [.int i,.int j,.str x]]=>some (a,b,i,j,x) | _=>none
noncomputable def fyS:KS where
 κ:=Fy
 dft:=("", "", 0,0, "")
 dec:=inferInstance
 lt:=ltF
 irr:=qX
 tr:=u7
 tot:=pU
 T:=FyT
 same:=fun ⟨t,t2,e,h1,h2,h3⟩ sm=>⟨t,t2,e,nZ h1 sm,nZ h2 sm,h3⟩
 Hh:=FyH
 key:=z8
 ask:=yF
 kd:=fun {P w A E s us Q} hu h0 hq=>by
  obtain ⟨fs,t1,t2,t3⟩:=yR hu;refine kat_kind (T:=.type "str") t1 (by rw [t2];exact h0) (fun v hv=>?_) rfl hq;obtain ⟨i,t,rfl⟩:=t3 v hv;exact Looks.of_pure rfl
 of:=FV
 ofT:=fun {K F H d u k} e h=>by
  unfold FV at e;split at e
  ·cases e;obtain ⟨t,ys,rfl,sq,_,u1,r1,rfl,e1,u2,r2,rfl,e2,u3,r3,rfl,e3,rfl⟩:=h;obtain ⟨t2,zs,rfl,sq2,_,w1,q1,rfl,f1,w2,q2,rfl,f2,w3,q3,rfl,f3,rfl⟩:=e3;have e1:u1=_:=e1.1;have e2:u2=_:=e2.1;have f1:w1=_:=f1;have f2:w2=_:=f2;have f4:w3=_:=f3.1;subst e1 e2 f1 f2 f4;exact ⟨t,t2,rfl,sq,sq2,f3.2.2⟩
  ·cases e
open PySem PySem.Spec PyProof.Rows
theorem qC {S:KS} {f:Fn} {hm:f.ms=[.dat]} {e:En} {x:AV} {kvs:List (PyData×PyData)} {ks:List S.κ} {Q:RV->En->Prop} (h1:aD e [x]=some [.dict kvs]) (h2:Sg.ju S f (kvs.map (·.1))=some ks) (h3:kvs.length < 64) (h4:ks.Nodup) (q:∀ r,r=(Sg.sO (ks.zip (kvs.map (·.1)))).map (·.2)->Q (.frs (.list r)) e):WPr (Sg.j4 S f hm) [x] e Q:=by
 have e:(Sg.j4 S f hm).f [.dict kvs]=some (PR.frs (.list ((Sg.sO (ks.zip (kvs.map (·.1)))).map (·.2)))):=by
  show Sg.nu S f [.dict kvs]=_;simp only [Sg.nu,h2];rw [Ht ⟨h3,@decide_eq_true _ (_) h4⟩]
 exact ⟨_,_,h1,e,q _ rfl⟩
theorem nj {α β γ:Type} (f:α->β) (g:α->γ):∀ U:List α,(U.map f).zip (U.map g)=U.map fun a=>(f a,g a)
 | []=>rfl
 | a :: U=>by rw [List.map_cons,List.map_cons,List.zip_cons_cons,nj f g U];rfl
theorem vg {S:KS} {α:Type} (key:α->S.κ) (enc:α->PyData) {U L:List α} (hU:(U.map key).Nodup) (hL:L.Pairwise fun a b=>S.lt (key a) (key b)=true) (hp:L.Perm U):(Sg.sO ((U.map key).zip (U.map enc))).map (·.2)=L.map enc:=by
 have ez:=nj key enc U;have row:L.map (fun a=>(key a,enc a))=Sg.sO ((U.map key).zip (U.map enc)):=by
  refine List.Perm.eq_of_pairwise (le:=fun a b=>S.lt a.1 b.1=true) (fun a b _ _ h1 h2=>?_) ?_ (Sg.l8 _ ?_) ?_
  ·have:=S.tr h1 h2;rw [S.irr] at this;cases this
  ·rw [Jq];exact hL
  ·rw [List.map_fst_zip (by simp)];exact hU
  ·refine List.Perm.trans ?_ (Sg.d5 _).symm;rw [ez];exact hp.map _
 rw [<- row,HX];rfl
open PySem PySem.Spec PyProof.Rows PySem.W
def AM (K:Fg):V->Hp->VK->Prop:=fun x H Q=>∃ F d,Vw K F H d x/\∀ H',ax H H'->Q (.bl (isL d||isT d)) H'
noncomputable def yU:Prm:=Prm.one AM (fun d=>some (.dat (.bool (isL d||isT d)))) fun K F H x u pr Q hf hx hd q=>by
 cases hf;exact ⟨F,x,hx,fun H' sm=>q _ H' sm rfl⟩
def EM (K:Fg):List V->Hp->VK->Prop:=fun vs H Q=>∃ x tp F d,vs=[x,.ref tp]/\H tp=some (.tup [.ty "list", .ty "tuple"])/\Vw K F H d x/\Q (.bl (isL d||isT d)) H
theorem tG {K:Fg} (d:PyData):PySem.W.kitAny K (.type (tyN d)) [.type "list", .type "tuple"]=some (isL d||isT d):=by
 unfold PySem.W.kitAny PySem.W.kitAny PySem.W.kitAny;rw [Aa d,Am d];cases isL d <;> cases isT d <;> rfl
theorem xt {X:Cx}:aS X (.builtin "isinstance") (EM X.K):=by
 rintro pins s σ H xs us Q I r ⟨x,tp,F,d,rfl,ht,hv,q⟩;obtain ⟨u,w',rfl,r1,r2⟩:=vals2 r;cases (show w'=Value.ref tp from r2);obtain ⟨_,its,rv,⟨o,g1,g2,n,g3⟩⟩:=(show aR X.prog X.w H s.heap tp (.tup [.ty "list", .ty "tuple"]) from I.hok tp _ ht);obtain ⟨u1,u2,rfl,ra,rb⟩:=vals2 rv;cases (show u1=Value.type "list" from ra);cases (show u2=Value.type "tuple" from rb);have htp:s.heap.get? tp=some ⟨.type "tuple", o.dict,.seq [Value.type "list", Value.type "tuple"].toArray n,o.slots⟩:=by
  rw [g1];obtain ⟨c,dd,da,sl⟩:=o;have g2:c=.type "tuple" := g2;have g3:da=_:=g3;subst g2 g3;rfl
 have e:=tG (K:=X.K) d;have fin:∀ tk,EP X pins σ Q (.bool (isL d||isT d)) { s with toks:=tk }:=fun tk=>⟨.bl _,H,I.tok _,rfl,q⟩;cases d with
 | none=>rw [FT hv] at r1;cases (show u=Value.none from r1);exact IU PySem.W.kitx_none I.kIn True.intro htp e (fun z=>nomatch z) fin
 | bool y=>rw [vBl hv] at r1;cases (show u=Value.bool y from r1);exact IU PySem.W.kitx_bool I.kIn True.intro htp e (fun z=>nomatch z) fin
 | int i=>rw [vInt hv] at r1;obtain ⟨t,q⟩:=(show ∃ t,u=Value.int i t from r1);cases q;exact IU PySem.W.kitx_int I.kIn True.intro htp e (fun z=>nomatch z) fin
 | str y=>rw [(vStr hv).1] at r1;obtain ⟨t,q⟩:=(show ∃ t,u=Value.str y t from r1);cases q;exact IU PySem.W.kitx_str I.kIn True.intro htp e (fun z=>nomatch z) fin
 | list ds =>
  obtain ⟨a,xs,rfl,l,z,rs⟩:=mh hv;cases (show u=Value.ref a from r1);obtain ⟨its,rv,⟨o,k,h1,h2,h3,h4⟩,_⟩:=I.list l;exact IU PySem.W.kitx_list I.kIn ⟨o,h1,h2⟩ htp e (fun z=>nomatch z) fin
 | tuple ds =>
  obtain ⟨a,xs,rfl,l,z,rs⟩:=uR hv;cases (show u=Value.ref a from r1);obtain ⟨its,rv,⟨o,h1,h2,k,h4⟩,_⟩:=I.tuple l;exact IU PySem.W.kitx_tuple I.kIn ⟨o,h1,h2⟩ htp e (fun z=>nomatch z) fin
 | dict ds =>
  obtain ⟨a,rfl,ep,xs,ea,_⟩:=hv;cases (show u=Value.ref a from r1);obtain ⟨_,_,_,o,es,h1,h2,_⟩:=(show aR X.prog X.w H s.heap a (.dD ep xs) from I.hok a _ ea);exact IU PySem.W.kitx_dict I.kIn ⟨o,h1,h2.1⟩ htp e (fun z=>nomatch z) fin
theorem DY {X:Cx} {e:Expr} {te:TE} {x1} {p p2 p3 pos pos2:Pos} (hg:Gl X "isinstance") (hm:X.mg "isinstance" = none) (ha:JE X e te) (hs:PySem.W.isStarred e=false)
  (hb:JE X (.Name (Str.ofString "list") p2) (tC (.ty "list"))) (hb2:JE X (.Name (Str.ofString "tuple") p3) (tC (.ty "tuple"))) :
  JE X (.Call (.Name "isinstance" p) [e,.Tuple [.Name (Str.ofString "list") p2,.Name (Str.ofString "tuple") p3] x1 pos2] [] pos) (tCB (yU.r X.K) (cT te ml)):=by
 let te':TE:=fun σ H P=>∃ P0:VK,te σ H P0/\∀ x H1,P0 x H1->P x H1
 have ha':JE X e te':=⟨fun pins s σ H P I ⟨P0,h0,h1⟩=>HP (ha.h pins s σ H P0 I h0) (fun v s' ⟨x,H',I',r,q⟩=>⟨x,H',I',r,h1 _ _ q⟩) fun _ _ z=>z⟩;have htu:JE X (.Tuple [.Name (Str.ofString "list") p2,.Name (Str.ofString "tuple") p3] x1 pos2) (BU (cT (tC (.ty "list")) (cT (tC (.ty "tuple")) ml))):=uh (eA hb (eA hb2 ai rfl) rfl);have outer:=eB (p:=p) (pos:=pos) (xt (X:=X)) hg hm (by decide +kernel) (eA ha' (eA htu ai rfl) hs) hs rfl (by decide) rfl;refine ⟨?_⟩;intro pins s σ H Q I hT;refine outer.h pins s σ H Q I ⟨_,hT,fun x H1 z=>?_⟩;obtain ⟨F,d,hv,q⟩:=(show AM X.K x H1 Q from z);refine ⟨by decide,fun tp htp=>⟨x,tp,F,d,rfl,ah,?_,q _ (ax.nw _ htp)⟩⟩;have sm:ax H1 (upd H1 tp (.tup [.ty "list", .ty "tuple"])):=ax.nw _ htp;have pr:=Pr.of_same (F:=F) sm;cases d with
 | list ds=>obtain ⟨a,rfl,z2⟩:=hv;exact ⟨a,rfl,rm.pr z2 pr (fun _ z=>z) (sm a)⟩
 | dict ds=>obtain ⟨a,rfl,z2⟩:=hv;exact ⟨a,rfl,rm.pr z2 pr (fun _ z=>z) (sm a)⟩
 | none=>exact Dm.pr pr (fun _ z=>z) hv
 | bool b=>exact Dm.pr pr (fun _ z=>z) hv
 | int b=>exact Dm.pr pr (fun _ z=>z) hv
 | str b=>exact Dm.pr pr (fun _ z=>z) hv
 | tuple b=>exact Dm.pr pr (fun _ z=>z) hv
noncomputable def BN:PyData->PyData->Option PR
 | .tuple ds,.tuple es=>ET (.tuple ds) (.tuple es)
 | x,y=>yY (fun i j=>decide (i < j)) ltS x y
noncomputable def xF:Prm:=Prm.two (fun K=>rOr (rOr (rI0 fun i j=>.bl (decide (i < j))) Em) (DI K)) BN fun K F H x y u v pr Q hf hx hy hd q=>by
 unfold BN at hf;split at hf
 ·rename_i ds es;exact .inr (Fh.ok K F H [.tuple ds,.tuple es] [u,v] pr Q hf ⟨u,_,rfl,hx,v,_,rfl,hy,rfl⟩ hd q)
 ·exact .inl (ltP.ok K F H [x,y] [u,v] pr Q hf ⟨u,_,rfl,hx,v,_,rfl,hy,rfl⟩ hd q)
theorem mx {X:Cx} (hu:X.A.units < cLine):OpR X (compareOp .Lt) (fun x y=>xF.r X.K [x,y]):=orR kK (yd hu)
open PySem PySem.Spec PyProof.Rows
section
variable {X:Cx} {x:Str} {p pos:Pos} {e:Expr} {es:List Expr} {t:TA} {f:Addr} {fd:FuncData} {ps:List Str} {sp:Sp} {k m:Nat} {r:List V->Hp->VK->Prop} {id T:String}
theorem eVx (i:Nat) (a:X.N[i]?=some x:=by exact rfl) (b:Vis X.env.scope x:=by exact .inl rfl) (c:(x==("__debug__" : Str))=false:=by exact rfl) (d:(x==("__classdict__" : Str))=false:=by exact rfl):JE X (.Name x pos) (ug i):=BZ i a b c d
theorem eVy (i:Nat) (a:X.N[i]?=some x:=by exact rfl) (b:Vis X.env.scope x:=by exact .inr (.inl rfl)) (c:(x==("__debug__" : Str))=false:=by exact rfl) (d:(x==("__classdict__" : Str))=false:=by exact rfl):JE X (.Name x pos) (ug i):=BZ i a b c d
theorem eCl (F:aY X.prog X.w X.K X.mg X.base CX0 k f fd ps sp) (hr:c6 m X.A) (hm:X.mg x=some (.ref f)) (hk:PySem.W.keepIn X.K (.ref f)=true) (hb:Binds X.K fd ps []) (ha:JA X (e :: es) t)
  (a:k<=m:=by omega) (b:Gl X x:=by exact rfl) (h1:PySem.W.isStarred e=false:=by exact rfl) (h2:es.all (fun e=>!PySem.W.isStarred e)=true:=by exact rfl) (c:(x==("__debug__" : Str))=false:=by exact rfl):JE X (.Call (.Name x p) (e :: es) [] pos) (qp sp [] E0 t) :=
 Bi F (hr.mono a) b hm hk hb .nil yf ha h1 h2 c
theorem eBs (hc:aS X (.builtin id) r) (hm:X.mg x=none) (ha:JA X (e :: es) t) (a:Gl X x:=by exact rfl) (hv:bootBuiltins x=some (.builtin id):=by decide +kernel) (h1:PySem.W.isStarred e=false:=by exact rfl) (h2:es.all (fun e=>!PySem.W.isStarred e)=true:=by exact rfl)
  (hn:x ≠ "__name__" := by decide) (c:(x==("__debug__" : Str))=false:=by exact rfl):JE X (.Call (.Name x p) (e :: es) [] pos) (tCB r t):=eB hc a hm hv ha h1 h2 hn c
theorem eTs (hc:aS X (.type T) r) (hm:X.mg x=none) (ha:JA X (e :: es) t) (a:Gl X x:=by exact rfl) (hv:bootBuiltins x=some (.type T):=by decide +kernel) (h1:PySem.W.isStarred e=false:=by exact rfl) (h2:es.all (fun e=>!PySem.W.isStarred e)=true:=by exact rfl)
  (hn:x ≠ "__name__" := by decide) (c:(x==("__debug__" : Str))=false:=by exact rfl):JE X (.Call (.Name x p) (e :: es) [] pos) (tCB r t):=eTy hc a hm hv ha h1 h2 hn c
end
theorem Fun.okX {P:Program} {w:World} {K:Fg} {mg:Str->Option Value} {base:Heap} {x qual:Str} {st:Stmt} {f:Addr} {fd:FuncData} {N ps:List Str} {k:Nat} {b:XS} {gd:List PyData} {ga:Nat->V} {ms:List PM} {rd:TS}
  (F:Fun K x qual st f fd) (S:ae N ps (aa st)) (hg:∀ g d,gd[g]?=some d->∀ F H,Dm K F H d (ga g)) (e:rd=rS K ga b)
  (j:∀ {cdv:Value} {A:Around} {outer:List Env} {s:Shared} {H:Hp} {E:XK},c6 k (A.deeper (envOfC qual (aa st) s.heap.objs.size f cdv))->JSs (uL CX0 P w K mg base N qual (aa st) f cdv A outer s H E).nox (bU st) rd)
  (hl:ms.length<=N.length:=by decide) (hp:ms.length=ps.length:=by exact rfl):aY P w K mg base CX0 (k+1) f fd ps (bz (bI gd ms N.length b) K) :=
 F.okJ S (fun vs H Q E h=>(uf h).trans hp) fun cdv A outer s H vs Q E hr h=>⟨rd,j hr,by rw [e];exact xU (N:=N) hg h hl⟩
open PySem PySem.Spec PyProof.Rows PySem.W
noncomputable def kyS:KS where
 κ:=Ky
 dft:=(0,0, "")
 dec:=inferInstance
 lt:=ltK
 irr:=jG
 tr:=r8
 tot:=mK
 T:=KyT
 same:=KyT.same
 Hh:=KyH
 key:=fun I r h=>I.key r h
 ask:=fun {P w A E s u v a b C} hu hx hy h=>by
  obtain ⟨x,t1,t2,t3,rfl,gx⟩:=hx;obtain ⟨y,u1,u2,u3,rfl,gy⟩:=hy;exact BG gx gy h
 kd:=fun {P w A E s us Q} hu h0 hq=>by
  obtain ⟨fs,t1,t2,t3⟩:=Av hu;refine kat_kind (T:=.type "int") t1 (by rw [t2];exact h0) (fun v hv=>?_) rfl hq;obtain ⟨i,t,rfl⟩:=t3 v hv;exact Looks.of_pure rfl
 of:=Fi
 ofT:=fun {K F H d u k} e h=>by
  unfold Fi at e;split at e
  ·cases e;obtain ⟨t,ys,rfl,sq,_,u1,r1,rfl,e1,u2,r2,rfl,e2,u3,r3,rfl,e3,rfl⟩:=h;have e1:u1=_:=e1;have e2:u2=_:=e2;have e3:u3=_:=e3.1;subst e1 e2 e3;exact ⟨t,rfl,sq⟩
  ·cases e
open PySem PySem.Spec PyProof.Rows
structure Fa (K:Fg) (mg:Str->Option Value) (x:Str) (st:Stmt) (ps:List Str) (a:Addr×FuncData):Prop where
 F:Fun K x x st a.1 a.2
 c:∀ us:List Value,us.length=ps.length->bindArgs a.2 ⟨us,[]⟩=pure (ps.zip us)
 m:mg x=some (.ref a.1)
section
variable {K:Fg} {mg:Str->Option Value} {x:Str} {st:Stmt} {ps:List Str} {a:Addr×FuncData} {h:Heap} {f:Addr} {od an:Option Addr} {sl:Array (Option Value)} {oc kV dc pm cd ct:Value}
theorem Fa.b (D:Fa K mg x st ps a):Binds K a.2 ps []:=.all D.c
def yl (K:Fg) (mg:Str->Option Value):List (Str×Stmt×List Str)->Prop
 | []=>True
 | (x,st,ps) :: r=>(∃ a,Fa K mg x st ps a)/\yl K mg r
theorem Es {r:List (Str×Stmt×List Str)} (X:K.In h) (G:h.Ns mainGlobals mg) (a:PySem.W.nsIn K mainGlobals x=some (some (.ref f))) (l:K.lookup f=some ⟨oc,od,.func (PySem.W.fnOf x x (gK st) (bU st) (aa st) .none kV dc pm an cd ct),sl⟩) (c:PySem.W.codeIn K cd x=true) (k:PySem.W.keepIn K (.ref f)=true)
  (hb:∀ (kV dc pm:Value) (an:Option Addr) (cd ct:Value) (us:List Value),us.length=ps.length->bindArgs (PySem.W.fnOf x x (gK st) (bU st) (aa st) .none kV dc pm an cd ct) ⟨us,[]⟩=pure (ps.zip us)) (hr:yl K mg r):yl K mg ((x,st,ps) :: r) :=
 ⟨⟨(f,_),Ap l c k,hb _ _ _ _ _ _,PySem.W.mg_of X G a⟩,hr⟩
theorem zp (a0:Addr×FuncData):∀ {l:List (Str×Stmt×List Str)},yl K mg l->∃ f:Nat->Addr×FuncData,∀ i {x st ps},l[i]?=some (x,st,ps)->Fa K mg x st ps (f i)
 | [],_=>⟨fun _=>a0,fun i x st ps h=>by cases h⟩
 | (y,st,ps) :: r,⟨⟨a,ha⟩,hr⟩=>by
  obtain ⟨f,hf⟩:=zp a0 hr;refine ⟨fun i=>i.casesOn a f,fun i x st ps h=>?_⟩;cases i with
  | zero=>cases h;exact ha
  | succ i=>exact hf i h
theorem Gm {e:Str×Stmt×List Str} {l:List (Str×Stmt×List Str)} (D:yl K mg (e :: l)):∃ f:Nat->Addr×FuncData,∀ i {x st ps},(e :: l)[i]?=some (x,st,ps)->Fa K mg x st ps (f i):=by
 obtain ⟨y,st,ps⟩:=e;have ⟨⟨a,_⟩,_⟩:=D;exact zp a D
end
theorem us1 {P:List Value->Prop} (h:∀ a,P [a]):∀ us:List Value,us.length=1->P us
 | [a],_=>h a
theorem us2 {P:List Value->Prop} (h:∀ a b,P [a,b]):∀ us:List Value,us.length=2->P us
 | [a,b],_=>h a b
theorem us3 {P:List Value->Prop} (h:∀ a b c,P [a,b,c]):∀ us:List Value,us.length=3->P us
 | [a,b,c],_=>h a b c
theorem scm {N P:List Str} {sc:Scope} (a:sc.kind=.function:=by exact rfl) (b:sc.isCoroutine=false:=by exact rfl) (c:sc.isGenerator=false:=by exact rfl) (d:N.Nodup:=by decide +kernel) (e:N.take P.length=P:=by exact rfl) (f:∀ x∈P,sc.names.lookup x=some .local\/sc.names.lookup x=some .cell:=by decide +kernel) (g:∀ y∈sc.names,y.2≠.free:=by decide +kernel):ae N P sc:=⟨a,b,c,d,e,f,g⟩
theorem Fa.ok {P:Program} {w:World} {K:Fg} {mg:Str->Option Value} {base:Heap} {x:Str} {st:Stmt} {a:Addr×FuncData} {N ps:List Str} {k:Nat} {b:XS} {gd:List PyData} {ga:Nat->V} {ms:List PM}
  (D:Fa K mg x st ps a) (S:ae N ps (aa st)) (hg:∀ g d,gd[g]?=some d->∀ F H,Dm K F H d (ga g))
  (j:∀ {cdv:Value} {A:Around} {outer:List Env} {s:Shared} {H:Hp} {E:XK},c6 k (A.deeper (envOfC x (aa st) s.heap.objs.size a.1 cdv))->JSs (uL CX0 P w K mg base N x (aa st) a.1 cdv A outer s H E).nox (bU st) (rS K ga b))
  (hl:ms.length<=N.length:=by decide) (hp:ms.length=ps.length:=by exact rfl):aY P w K mg base CX0 (k+1) a.1 a.2 ps (bz (bI gd ms N.length b) K) :=
 D.F.okX S hg rfl j hl hp
section
variable {X:Cx} {x:Str} {p p2 pos pos':Pos} {e a b:Expr} {es:List Expr} {t:TA} {te ta tb:TE} {ps:List Str} {sp:Sp} {k m i:Nat} {r:List V->Hp->VK->Prop} {T:String} {st:Stmt} {q:Addr×FuncData}
theorem eCx (F:aY X.prog X.w X.K X.mg X.base CX0 k q.1 q.2 ps sp) (hr:c6 m X.A) (D:Fa X.K X.mg x st ps q) (ha:JA X (e :: es) t)
  (a:k<=m:=by omega) (b:Gl X x:=by exact rfl) (h1:PySem.W.isStarred e=false:=by exact rfl) (h2:es.all (fun e=>!PySem.W.isStarred e)=true:=by exact rfl) (c:(x==("__debug__" : Str))=false:=by exact rfl):JE X (.Call (.Name x p) (e :: es) [] pos) (qp sp [] E0 t) :=
 Bi F (hr.mono a) b D.m D.F.kp D.b .nil yf ha h1 h2 c
theorem eAx (ha:JE X e te) (hr:JA X es t) (h:PySem.W.isStarred e=false:=by exact rfl):JA X (e :: es) (cT te t):=eA ha hr h
theorem eIy (ha:JE X a ta) (hb:JE X b tb) (hs:ma b:=by exact fun _ _=>rfl):JE X (.Subscript a b pos) (tOp (fun x y=>ixP.r X.K [x,y]) ta tb):=eIx dY ha hb hs
theorem eSx (hN:X.N.Nodup) (i:Nat) (he:JE X e te) (hi:X.N[i]?=some x:=by exact rfl) (hx:Loc X.env.scope x:=by exact .inl rfl) (hs:swapsWith e (some (.Name x pos')) pos.line X.env=pure false:=by exact rfl) (hf:X.fn x=true\/X.env.scope.names.lookup x=some .local:=by exact .inl rfl) :
  JS X (.Assign [.Name x pos'] e pos) (rK te (cX i)):=FR he hN hi hx hs hf
theorem eSy (hN:X.N.Nodup) (i:Nat) (he:JE X e te) (hi:X.N[i]?=some x:=by exact rfl) (hx:Loc X.env.scope x:=by exact .inr rfl) (hs:swapsWith e (some (.Name x pos')) pos.line X.env=pure false:=by exact rfl) (hf:X.fn x=true\/X.env.scope.names.lookup x=some .local:=by exact .inl rfl) :
  JS X (.Assign [.Name x pos'] e pos) (rK te (cX i)):=FR he hN hi hx hs hf
theorem eGx (hN:X.N.Nodup) (i:Nat) (hi:X.N[i]?=some x:=by exact rfl) (hx:Loc X.env.scope x:=by exact .inl rfl) (hf:X.fn x=true\/X.env.scope.names.lookup x=some .local:=by exact .inl rfl):JG X (.Name x pos) (cX i):=eGN hN hi hx hf
theorem eTx {op:CmpOp} {r:R2} (ho:OpR X (compareOp op) r) (ha:JE X a ta) (hb:JE X b tb) (hm:behindInMarks op b=false:=by exact gN _):JT X (.Compare a [op] [b] pos) (rY (tOp r ta tb)):=kQ ho ha hb hm
theorem eUx (h:JE X e te) (he:∀ whole,isTrue e X.env whole=(do let v<-whole;standAt e.pos;holding [v] (truthy v)):=by exact fun _=>rfl):JT X e (tB te):=Gs h he
theorem eIz (hm:X.mg "isinstance" = none) (ha:JE X e te) (hz:X.mg (Str.ofString T)=none) (hg:Gl X "isinstance" := by exact rfl) (hs:PySem.W.isStarred e=false:=by exact rfl)
  (h1:Gl X (Str.ofString T):=by exact rfl) (h2:bootBuiltins (Str.ofString T)=some (.type T):=by decide +kernel) (h3:Str.ofString T ≠ "__name__" := by decide) (h4:(Str.ofString T==("__debug__" : Str))=false:=by exact rfl):JE X (.Call (.Name "isinstance" p) [e,.Name (Str.ofString T) p2] [] pos) (tCB ((jV T).r X.K) (cT te ml)) :=
 GW hg hm ha hs (D0 h1 hz h2 rfl h3 h4)
theorem eFx {iter tg:Expr} {body:List Stmt} {wi:TI} {g:TG} {tb:TS} (hi:JI X tg iter wi) (hg:JG X tg g) (hb:JSs X body tb) (hp:PassesOwn (model X.prog X.w) X.A X.env X.xe:=by exact PassesOwn.never) (hc:X.calm=true:=by exact rfl) (hs:∀ x,foldedSetIterable iter X.env x=pure x:=by exact fun _=>rfl):JS X (.For tg iter body [] pos) (Bm wi g tb):=Gz hi hg hb hp hc hs
theorem eKx {elt iter:Expr} {px:Pos} {ifs:List Expr} {scope:Scope} {wi:TI} {tt:TT} {js:List Nat} (ys:List Str) (hi:JI X (.Name x px) iter wi) (ht:JTs X (x :: ys) scope ifs tt) (he:JC X (x :: ys) scope elt te) (B:fj X scope x) (cap:d8 X scope ys js)
  (hc:X.calm=true:=by exact rfl) (nd:(x :: ys).Nodup:=by decide +kernel) (hs:∀ x,foldedSetIterable iter X.env x=pure x:=by exact fun _=>rfl):JE X (.ListComp elt [⟨.Name x px,iter,ifs,0⟩] scope pos) (oN js wi tt te):=Er ys hi ht he hc B nd cap hs
end
abbrev vr (i:Nat):XE:=.var i
abbrev ci (i:Int):XE:=.cst (.i i)
abbrev cs (x:String) (h:(Str.ofString x).length<=sizeLine:=by decide +kernel):XE:=.cst (.s x h (uA x))
abbrev p1 (p:Prm) (a:XE):XE:=.prm p (.cons a .nil)
abbrev p2 (p:Prm) (a b:XE):XE:=.prm p (.cons a (.cons b .nil))
open PySem PySem.Spec PyProof.Rows
section
variable {X:Cx} {pins:List (Addr×Obj)} {σ:St} {H:Hp} {s:Shared} {a:Addr} {ep:Nat} {xs:List (PyData×V×V)} {k:PyData} {u:Value} {as:List Addr} {A:Around} {E:Value->Shared->Prop}
def Af (K:Fg):V->List V->Hp->VK->Prop:=fun o vs H Q=>∃ y z k a ep xs,vs=[y,z]/\B5 K H o y k a ep xs/\Q ((lA xs k).getD z) H
theorem yB {v:V} {d:Value} {Q:Value->Shared->Prop} (hu:A.units+8 < cLine) (I:Inv X pins σ H s) (e:H a=some (.dD ep xs)) (kr:gX s.heap xs) (hk:Reads s.heap u k as) (ky:kyB k=true) (hv:RelV v d)
  (q:∀ t r,RelV ((lA xs k).getD v) r->Q r { s with toks:=t }):wpAny (model X.prog X.w) A (call (.builtin "dict.get") [.ref a,u,d]) Q E s:=by
 obtain ⟨T,hd⟩:=dr I e;refine Ib IZ T PySem.F.entry_dict_get ?_ (PySem.F.args_dict_get_3 _ _ _);refine Ha (m:=dictGet a u) (xC (by have:A.in1.units=A.units+1:=rfl;omega) I e kr hk ky fun t ov r=>?_);cases hv':lA xs k with
 | some w =>
  rw [hv'] at r;cases ov with
  | none=>cases r
  | some w'=>exact He ⟨_,rfl,q t w' (by rw [hv'];exact r)⟩
 | none =>
  rw [hv'] at r;cases ov with
  | some w'=>cases r
  | none =>
   show wpAny _ _ (Builtin.Dict.missed a u>>=_) _ _ _;exact Ha (wpAny_missed_other hd (He ⟨_,rfl,q t d (by rw [hv'];exact hv)⟩))
theorem jm (hu:X.A.units+64 < cLine):MtR X "dict.get" (Af X.K):=by
 intro pins s σ H x vs v us Q I rx rv h;obtain ⟨y,z,k,a,ep,xs,rfl,⟨F,kvs,rfl,ea,r,hk,hk6'⟩,q⟩:=h;cases rv with
 | cons ry rv =>
 cases rv with
 | cons rz rv =>
 cases rv;cases rx;obtain ⟨as,rk⟩:=hk.reads I (gA _ (eS.mp hk6').1) ry;exact yB (by omega) I ea (mI I r) rk (q8 hk hk6') rz fun t w rw=>⟨_,_,I.tok _,rw,q⟩
end
noncomputable def Cq:PyData->Bool | .dict _=>true | _=>false
noncomputable def ur:Mtd where
 T := "dict"
 r:=Af
 ty:=Cq
 f:=fun d as=>match d,as with
  | .dict kvs,[.str k,.str x]=>if hk6 (.str k)=true then some (.dat ((getD kvs (.str k)).getD (.str x))) else none
  | _,_=>none
 zm:=fun K F H d v h t=>by
  cases d with
  | dict kvs=>obtain ⟨a,rfl,ep,xs,e,_⟩:=t;exact .inr (.inr (.inl ⟨rfl,.inr (.inr ⟨ep,xs,e⟩)⟩))
  | _=>cases h
 ok:=fun K F H d v ds vs pr Q hf hx hv hd q=>by
  split at hf
  ·rename_i kvs k x;split at hf
   ·rename_i hk;cases hf;obtain ⟨a,rfl,ep,xs,ea,z,r⟩:=hx;obtain ⟨y,r1,rfl,hy,w,r2,rfl,hw,rfl⟩:=hv;have g:=ny (k:=.str k) r;refine ⟨y,w,.str k,a,ep,xs,rfl,⟨F,kvs,rfl,ea,r,hy,hk⟩,q _ H (ax.rf H) ?_⟩;cases z:getD kvs (.str k) with
    | none=>rw [g.2 z];exact vStr hw
    | some d=>obtain ⟨v,ev,dv⟩:=g.1 d z;rw [ev];exact dv
   ·cases hf
  ·cases hf
def zF (K:Fg):V->Hp->VK->Prop:=fun u H Q=>∃ (a:Addr) (ep:Nat) (xs:List (PyData×V×V)),u=.ref a/\H a=some (.dD ep xs)/\TkX xs/\xs.length<=sizeLine/\∀ D,H D=none->Q (.ref D) (upd H D (.lst (xs.map (·.2.2))))
theorem nQ {K:Fg} {F:Addr->Prop} {H:Hp}:∀ {kvs:List (PyData×PyData)} {xs:List (PyData×V×V)},DmP K F H kvs xs->DmL K F H (kvs.map (·.2)) (xs.map (·.2.2))
 | [],xs,h=>by rw [show xs=[] from h];rfl
 | (k,d) :: kvs,xs,h=>by
  obtain ⟨j,v,r,rfl,h1,h2,h3,h4⟩:=h;exact ⟨_,_,rfl,h3,nQ h4⟩
noncomputable def uj:Prm:=Prm.one zF (fun x=>match x with | .dict kvs=>if (kvs.all fun p=>k7 p.1)=true then some (.frs (.list (kvs.map (·.2)))) else none | _=>none) fun K F H x u pr Q hf hx hd q=>by
 split at hf
 ·rename_i kvs;split at hf
  ·rename_i hk;cases hf;obtain ⟨a,rfl,ep,xs,ea,z,dp⟩:=hx;exact ⟨a,ep,xs,rfl,ea,qy dp hk,z,fun D hD=>q _ _ (ax.nw _ hD) (D3 hD (by rw [Hb];exact z) (nQ dp))⟩
  ·cases hf
 ·cases hf
theorem rM:∀ {xs:List (PyData×V×V)} {vs:List (Key×Value)} {us:List Value},VX xs vs->us.length=vs.length->(∀ (j:Nat) v,us[j]?=some v->∃ k,vs[j]?=some (k,v))->Vals (xs.map (·.2.2)) us
 | [],_,us,q,e,_=>by
  cases q;cases us with
  | nil=>exact .nil
  | cons _ _=>cases e
 | x :: xs,_,us,q,e,h=>by
  cases q with
  | @cons _ kv _ vs q1 q2 =>
  cases us with
  | nil=>cases e
  | cons u us =>
   obtain ⟨k,ek⟩:=h 0 u rfl;cases ek;obtain ⟨t,_,_,_,r⟩:=q1;exact .cons r (rM q2 (by simpa using e) fun j v hv=>by simpa using h (j+1) v (by simpa using hv))
theorem EN {X:Cx} {l:Expr} {tl:TE} {apos p pos cpos:Pos} (hc:X.calm=true) (hg:Gl X "list") (hm:X.mg "list" = none) (hl:JE X l tl) (hbase:attributeBase l "values" X.env (eval l X.env)=eval l X.env) (hline:(apos.endLine==cpos.line)=true) :
  JE X (.Call (.Name "list" p) [.Call (.Attribute l "values" apos) [] [] cpos] [] pos) (tCB (uj.r X.K) (cT tl ml)):=by
 refine ⟨fun pins s σ H Q I h=>?_⟩;refine Ji (i7 I hg hm (show bootBuiltins "list" = some (.type "list") by decide +kernel) ?_ (by decide) (by decide));refine PyProof.Rows.callWith_type1 ?_ (aH rfl) rfl;have st1:backTo pos (starEach [Expr.Call (.Attribute l "values" apos) [] [] cpos] X.env)=[(false,eval (.Call (.Attribute l "values" apos) [] [] cpos) X.env)]:=by rw [aH rfl];rfl
 rw [st1];refine Calls.spliced_cons (x:=eval (.Call (.Attribute l "values" apos) [] [] cpos) X.env) ?_;refine wpAny_Call_method0_late hbase hline (thn (hl.h pins s σ H _ I h) fun v s1 ⟨x,H1,I1,r1,q⟩=>?_);obtain ⟨a,ep,xs,rfl,ea,tk,z,q⟩:=(show zF X.K x H1 Q from q);cases r1;obtain ⟨hd,_,vs,rv,dat⟩:=rp I1 ea tk;have hlen:vs.length=xs.length:=(Im rv).symm;refine ⟨"dict", "dict.values", F.plainAttrs_dict,F.slot_dict_values,F.type_dict_values,dat.dictOf.typeIs,dat.dictOf.mapOf.noDict,?_⟩;refine method_meetsIn F.slot_dict_values F.entry_dict_values rfl (PySem.evalArgs_none ⟨rfl,dat.dictOf.typeIs,F.args_dict_values_1 _,_,meets_dict_values (aj X.prog X.w) a hd,⟨vs,dat.dictOf⟩,?_⟩);refine Calls.spliced_nil ?_;refine PySem.W.kdl_call (PySem.W.kdl_values (knd:=aj X.prog X.w) (kvs:=vs) (ep:=ep)) (I1.ok.hd hc) ⟨⟨_,HC _ rfl,rfl,rfl⟩,dat.push _⟩ (by rw [hlen];exact z) fun h' tk acc' c' kp hS hacc=>?_;have I2:Inv X pins σ H1 { s1 with heap:=s1.heap.push { cls:=.type "dict_values", data:=.fields #[.ref a] } }:=I1.kept (t':=s1.toks) fun b o e=>Hg _ e;have ev:Vals (xs.map (·.2.2)) acc'.toList:=rM rv (by rw [HL];exact hacc.1) fun j v hv=>hacc.2 j v (by rw [<- Ik];exact hv);refine ⟨.ref _,_,I2.laid (t':=tk) (o:=.lst (xs.map (·.2.2))) (fun b o e=>kp b o e) (Hl _) ⟨by rw [Hb];exact z,acc'.toList,c',ev,by rw [Array.toArray_toList];exact hS⟩,rfl,q _ (I2.hok.fresh (Hl _))⟩
def yI (K:Fg):V->Hp->VK->Prop:=fun u H Q=>∃ (a:Addr) (ep:Nat) (xs:List (PyData×V×V)),u=.ref a/\H a=some (.dD ep xs)/\TkX xs/\xs.length<=sizeLine/\∀ D ep',H D=none->Q (.ref D) (upd H D (.dD ep' xs))
noncomputable def uK:Prm:=Prm.one yI (fun x=>match x with | .dict kvs=>if (kvs.all fun p=>k7 p.1)=true then some (.frs (.dict kvs)) else none | _=>none) fun K F H x u pr Q hf hx hd q=>by
 split at hf
 ·rename_i kvs;split at hf
  ·rename_i hk;cases hf;obtain ⟨a,rfl,ep,xs,ea,z,dp⟩:=hx;refine ⟨a,ep,xs,rfl,ea,qy dp hk,z,fun D ep' hD=>q _ _ (ax.nw _ hD) ⟨D,rfl,hD,ep',xs,ah,z,?_⟩⟩;exact (dp.fresh hD).pr (Pr.of_same (ax.nw _ hD)) fun _ z=>z
  ·cases hf
 ·cases hf
theorem zO {P:Program} {w:World}:∀ {xs:List (PyData×V×V)} {vs:List (Key×Value)} {es:List DictEntry},VX xs vs->Pairs (aj P w) es vs->(∀ e∈es,∃ k,(aj P w).is k e.key=true/\e.hash=(aj P w).hash k)->Paired (uM w) xs es
 | [],_,_,r,q,_=>by cases r;cases q;exact .nil
 | x :: xs,_,_,r,q,h=>by
  cases r with
  | @cons _ kv _ vs r1 r2 =>
  cases q with
  | @cons e _ es _ h1 h2 h3 =>
   obtain ⟨t,e1,e2,e3,e4⟩:=r1;obtain ⟨k,hk,hh⟩:=h e Hu;have ek:k=kv.1:=(aj P w).inj _ _ _ hk h1;subst ek;rw [e3] at hk hh;refine .cons ⟨?_,?_,?_⟩ (zO r2 h3 fun e he=>h e (Hm _ he))
   ·rw [hh,e1];exact (md w (.inr t)).symm
   ·rw [e2];rcases aq (show jy (.inr t) e.key=true from hk) with ⟨i,t',q,_⟩ | ⟨y,t',q,q2⟩
    ·cases q
    ·cases q;exact ⟨t',q2⟩
   ·rw [h2];exact e4
theorem mY {X:Cx}:aS X (.type "dict") (uK.r X.K):=by
 intro pins s σ H xs us Q I rv q
 match xs,q with
 | [x],q =>
  obtain ⟨a,ep,ys,rfl,ea,tk,z,q⟩:=(show yI X.K x H Q from q);cases rv with
  | cons r0 r1 =>
  cases r1;have r0:_=Value.ref a:=r0;subst r0;obtain ⟨hd,_,vs,r1,dat⟩:=rp I ea tk;have hlen:vs.length=ys.length:=(Im r1).symm;refine kt_call_dict (knd:=aj X.prog X.w) hd dat.dictOf (by rw [hlen];exact z) fun h' dd' hs=>?_;obtain ⟨o,es,ep',h1,h2,h3,h4,h5,h6⟩:=dd';have hb:(s.heap.objs.size==sysModules)=false:=beq_eq_false_iff_ne.mpr (Ne.symm (HI I.big));have keep:∀ b u,s.heap.get? b=some u->h'.get? b=some u:=fun b u e=>(hs.2 b (HI (Hw e))).trans (Hg _ e);refine ⟨.ref _,_,I.laid (t':=s.toks) (o:=.dD ep' ys) keep (Hl _) ⟨z,hb,?_,o,es,h1,h2,h3,zO r1 h5 fun e he=>h4 e (Array.mem_toList_iff.mp he)⟩,rfl,q _ ep' (I.hok.fresh (Hl _))⟩;rw [lF r1];exact List.Pairwise.map kD (fun _ _ n z=>n (vB z)) h6
open PySem PySem.Spec PyProof.Rows
def DL (X:Cx):List V->Hp->VK->Prop:=fun xs H Q=>∃ (d:Addr) (ss:List Str),xs=[.ref d]/\H d=some (BQ X d ss)/\Q (.int ss.length) H
theorem pj {X:Cx}:aS X (.builtin "len") (DL X):=by
 intro pins s σ H xs us Q I r h;obtain ⟨d,ss,rfl,hq,q⟩:=h;obtain ⟨u,rfl,r1⟩:=vals1 r;cases (show u=Value.ref d from r1);obtain ⟨hS,_⟩:=I.hok _ _ hq;obtain ⟨ob',es',ep',tb',g1,g2,e⟩:=cE.size hS;obtain ⟨ob,es,ep,tb,h1,hx,h2,_,_,hb,ht⟩:=hS;rw [h1] at g1;cases g1;rw [h2] at g2;cases g2;have hz:scanBound<=4096:=by decide
 refine call_len_set h1 hx h2 ht.fit (by omega) ⟨.int _,H,I.tok _,⟨_,rfl⟩,?_⟩;rw [e];exact q
def rLS (K:Fg):V->Hp->VK->Prop:=fun x H Q=>∃ (a:Addr) (ss:List Str),x=.ref a/\SqL K H a (ss.map V.str)/\ss.length < 1000/\∀ H1,ax H H1->Q (.int (eh ss).length) H1
noncomputable def tJ:Prm:=Prm.one rLS (fun x=>match x with | .list ds=>(match strsOf ds with | some ss=>if ss.length < 1000 then some (.dat (.int (eh ss).length)) else none | none=>none) | _=>none) fun K F H x u pr Q hf hx hd q=>by
 split at hf
 ·rename_i ds;split at hf
  ·rename_i ss hss;split at hf
   ·rename_i h64;cases hf;obtain ⟨a,us,rfl,s1,z1,d1⟩:=mh hx;obtain ⟨e,os⟩:=vq hss d1;rw [e] at s1;exact ⟨a,ss,rfl,s1,h64,fun H1 sm=>q _ H1 sm rfl⟩
   ·cases hf
  ·cases hf
 ·cases hf
theorem eLS {X:Cx} {e:Expr} {te:TE} {p1 p2 pos1 pos2:Pos} (hc:X.calm=true) (hg1:Gl X "len") (hm1:X.mg "len" = none) (hg2:Gl X "set") (hm2:X.mg "set" = none) (h:PySem.W.isStarred e=false) (ha:JE X e te) :
  JE X (.Call (.Name "len" p1) [.Call (.Name "set" p2) [e] [] pos2] [] pos1) (tCB (tJ.r X.K) (cT te ml)):=by
 let te':TE:=fun σ H P=>∃ P0:VK,te σ H P0/\∀ x H1,P0 x H1->P x H1
 have ha':JE X e te':=⟨fun pins s σ H P I ⟨P0,h0,h1⟩=>HP (ha.h pins s σ H P0 I h0) (fun v s' ⟨x,H',I',r,q⟩=>⟨x,H',I',r,h1 _ _ q⟩) fun _ _ z=>z⟩;have inner:=eTy (p:=p2) (pos:=pos2) (pA hc) hg2 hm2 (by decide +kernel) (eA ha' ai h) h rfl (by decide) rfl;have outer:=eB (p:=p1) (pos:=pos1) (pj (X:=X)) hg1 hm1 (by decide +kernel) (eA inner ai rfl) rfl rfl (by decide) rfl;refine ⟨?_⟩;intro pins s σ H Q I hT;refine outer.h pins s σ H Q I ⟨_,hT,fun x H1 z=>?_⟩;have z:rLS X.K x H1 Q:=z;obtain ⟨a,ss,rfl,sq,h64,q⟩:=z;exact ⟨a,ss,rfl,sq,h64,fun p hp=>⟨p,eh ss,rfl,ah,q _ (ax.nw _ hp)⟩⟩
open PySem PySem.Spec PyProof.Rows
section
variable {P:Program} {w w0:World} {A:Around} {E:Value->Shared->Prop} {s:Shared}
theorem zH {nm:String} {a b:Addr} {oa ob:Obj} {es es2:Array DictEntry} {ep ep2:Nat} {ks:List PyData} {Q:Bool->Shared->Prop} (hu:A.units+6 < cLine) (la:(a==sysModules)=false) (lb:(b==sysModules)=false)
  (ga:s.heap.get? a=some oa) (da:oa.data=.dict es ep) (gb:s.heap.get? b=some ob) (db:ob.data=.dict es2 ep2) (N:xY w0 s.heap es2 ks)
  (hall:∀ (i:Nat) e,es[i]?=some e->∃ k as e2,Reads s.heap e.key k as/\kyB k=true/\e.hash=bu w0 k/\ks[i]?=some k/\es2[i]?=some e2/\SeqAt.EqAt A s e.val e2.val true)
  (hsz:es.size=es2.size) (q:Q true s):wpAny (model P w) A (Builtin.Dict.samePairs nm a b) Q E s:=by
 unfold Builtin.Dict.samePairs Builtin.Dict.showsAll;rw [Hv (show ¬(a==sysModules)=true by rw [la];decide),Hv (show ¬(b==sysModules)=true by rw [lb];decide)];refine Ha (He (Ha (He (Ha (Iq ga da ?_)))));dsimp only;refine Ha (Iq gb db ?_);rw [Hv (by simp [hsz])];refine Ha (Ii ga da (Ha ?_));rw [Std.Legacy.Range.forIn_eq_forIn_range'];simp only [Std.Legacy.Range.size,Nat.sub_zero,Nat.add_sub_cancel,Nat.div_one];refine II _ (fun rest b s'=>s'=s/\b=(none,())/\∃ i,rest=List.range' i (es.size - i)) _ ?_ ?_ _ _ ⟨rfl,rfl,0,by simp⟩
 ·rintro x rest _ _ ⟨rfl,rfl,i,hr⟩;have hlt:i < es.size:=by
   rcases Jx i es.size with h | h
   ·exact h
   ·rw [Nat.sub_eq_zero_of_le h] at hr;cases hr
  rw [show es.size - i=(es.size - (i+1))+1 by omega,List.range'_succ] at hr;obtain ⟨rfl,rfl⟩:=List.cons.inj hr;refine Ha (Iq ga da ?_);have hx:=HG hlt;rw [hx];obtain ⟨k,as,e2,h1,h2,h3,h4,h5,h6⟩:=hall x _ hx;dsimp only;rw [h3];refine Ha (HR (Ha (qa hu h1 h2 gb db N (fun no=>absurd h4 (no x)) fun j hj=>?_)));have e:j=x:=N.one hj h4;subst e;dsimp only;refine Ha (Iq gb db ?_);rw [h5];dsimp only;refine HR (h6 _ _ _ _ ?_);first | rw [Hv (by decide)] | simp only [Bool.not_true,Iw,IG]
  refine Ha (Ii ga da ?_);rw [Hv (by simp)];exact He ⟨rfl,rfl,j+1,rfl⟩
 ·rintro _ _ ⟨rfl,rfl,_⟩;exact He q
theorem rcD {a b:Addr} (T1:s.TypeIs (.ref a) "dict") (T2:s.TypeIs (.ref b) "dict") (hu:A.units < cLine) (h:∀ (P:Program) (w:World) (E:Value->Shared->Prop) (Q:Bool->Shared->Prop),Q true s->wpAny (model P w) A.in1 (Builtin.Dict.samePairs "dict.__eq__" a b) Q E s):SeqAt.RcAt A s (.ref a) (.ref b) true:=fun prog w E Q q=>by
 refine wpAny_richCompare_same_room (op:=.Eq) T1 T2 PySem.F.slot_dict_eq (Ib PySem.F.slot_dict_eq T1 PySem.F.entry_dict_eq ?_ (PySem.F.args_dict_eq_2 _ _)) hu;unfold Builtin.«dict.__eq__»
 refine Ha ?_;unfold Builtin.Dict.dictSlotArgs;refine Ha (wpAny_notOrdered_dict T1 ?_);show wpAny _ _ (pure (Value.ref a,Value.ref b)) _ _ s;refine He (Ha (wpAny_isInstance (T := "dict") T2 PySem.F.sub_dict_dict ?_));simp only [Bool.not_true,Iw,IG];refine Ha (He (Ha (He (Ha (h _ _ _ _ ?_)))));exact He ⟨_,rfl,fun z=>(nomatch z),q⟩
end
noncomputable def dTT:PyData->Bool
 | .dict kvs=>kvs.all fun p=>k7 p.1&&k7 p.2
 | _=>false
section
variable {X:Cx} {pins:List (Addr×Obj)} {σ:St} {H:Hp} {s:Shared} {F:Addr->Prop} {A:Around}
theorem u0 {K:Fg}:∀ {kvs:List (PyData×PyData)} {xs ys:List (PyData×V×V)} {i:Nat} {x:PyData×V×V},DmP K F H kvs xs->DmP K F H kvs ys->(kvs.all fun p=>k7 p.1&&k7 p.2)=true->xs[i]?=some x->∃ y t,ys[i]?=some y/\y.1=x.1/\x.2.2=.str t/\y.2.2=.str t
 | [],xs,ys,i,x,h,_,_,e=>by rw [show xs=[] from h] at e;cases e
 | (k,d) :: kvs,xs,ys,i,x,h,g,a,e=>by
  obtain ⟨j,v,r,rfl,_,h0,h1,h2⟩:=h;obtain ⟨j',v',r',rfl,_,g0,g1,g2⟩:=g;rw [List.all_cons,HN,HN] at a;cases i with
  | zero =>
   cases e;cases d with
   | str t=>exact ⟨_,t,rfl,rfl,h1.1,g1.1⟩
   | _=>cases a.1.2
  | succ i=>exact u0 (i:=i) h2 g2 a.2 e
theorem CT {kvs:List (PyData×PyData)} {xs ys:List (PyData×V×V)} {a b:Addr} {ep ep2:Nat} (I:Inv X pins σ H s) (ea:H a=some (.dD ep xs)) (eb:H b=some (.dD ep2 ys)) (ra:DmP X.K F H kvs xs) (rb:DmP X.K F H kvs ys) (hv:(kvs.all fun p=>k7 p.1&&k7 p.2)=true) (hu:A.units+8 < cLine):SeqAt.EqAt A s (.ref a) (.ref b) true:=by
 by_cases hab:a=b
 ·subst hab;exact SeqAt.EqAt.same _
 obtain ⟨T1,l1⟩:=dr I ea;obtain ⟨T2,l2⟩:=dr I eb;obtain ⟨_,_,nd1,o1,es1,f1,f2,f3,f4⟩:=(show aR X.prog X.w H s.heap a (.dD ep xs) from I.hok _ _ ea);obtain ⟨_,_,nd2,o2,es2,g1,g2,g3,g4⟩:=(show aR X.prog X.w H s.heap b (.dD ep2 ys) from I.hok _ _ eb);have n1:es1.size=xs.length:=by rw [Im f4];simp
 have n2:es2.size=ys.length:=by rw [Im g4];simp
 have n3:xs.length=ys.length:=(jq ra).symm.trans (jq rb);have kr:=mI I ra;refine SeqAt.EqAt.of_refs hab (rcD T1 T2 (by omega) fun P w E Q q=>zH (w0:=X.w) (by have:A.in1.units=A.units+1:=rfl;omega) l1 l2 f1 f3 g1 g3 (me (P:=X.prog) (mI I rb) nd2 g4) (fun i e he=>?_) (by omega) q);have hi:i < xs.length:=by rw [<- n1];exact (Array.getElem?_eq_some_iff.mp he).1
 have hx:=Hc hi;obtain ⟨y,t,hy,e1,e2,e3⟩:=u0 ra rb hv hx;obtain ⟨en,h1,h2,h3,h4⟩:=bt f4 i _ hx;rw [Ik,he] at h1;cases h1;obtain ⟨en2,k1,k2,k3,k4⟩:=bt g4 i _ hy;rw [Ik] at k1;obtain ⟨ky,kk⟩:=kr _ (Iv hi);obtain ⟨bs,rd⟩:=kk _ h3;rw [e2] at h4;rw [e3] at k4;obtain ⟨t1,h4⟩:=h4;obtain ⟨t2,k4⟩:=k4;refine ⟨_,bs,en2,rd,ky,h2,by rw [Hi,hy,<-e1];rfl,k1,?_⟩;have z:=SeqAt.EqAt.str_str (A:=A.in1) (s:=s) t t1 t t2;rw [Iu] at z;rw [h4,k4];exact z
theorem vz {K:Fg}:∀ {ds:List PyData} {us ws:List V} {i:Nat} {u:V},DmL K F H ds us->DmL K F H ds ws->ds.all dTT=true->us[i]?=some u->∃ a b ep ep2 xs ys kvs,u=.ref a/\ws[i]?=some (.ref b)/\H a=some (.dD ep xs)/\H b=some (.dD ep2 ys)/\DmP K F H kvs xs/\DmP K F H kvs ys/\(kvs.all fun p=>k7 p.1&&k7 p.2)=true
 | [],us,ws,i,u,h,_,_,e=>by rw [show us=[] from h] at e;cases e
 | d :: ds,us,ws,i,u,h,g,a,e=>by
  obtain ⟨v,r,rfl,h1,h2⟩:=h;obtain ⟨v',r',rfl,g1,g2⟩:=g;rw [List.all_cons,HN] at a;cases i with
  | zero =>
   cases e;cases d with
   | dict kvs =>
    obtain ⟨a1,ep,xs,rfl,_,l,_,p1⟩:=h1;obtain ⟨a2,ep2,ys,rfl,_,l2,_,p2⟩:=g1;exact ⟨a1,a2,ep,ep2,xs,ys,kvs,rfl,rfl,l,l2,p1,p2,a.1⟩
   | _=>cases a.1
  | succ i=>exact vz (i:=i) h2 g2 a.2 e
def GI (K:Fg):R2:=fun x y H Q=>∃ (p q:Addr) (us ws:List V) (F:Addr->Prop) (ds:List PyData),x=.ref p/\y=.ref q/\SqL K H p us/\SqL K H q ws/\DmL K F H ds us/\DmL K F H ds ws/\ds.all dTT=true/\Q (.bl false) H
open Classical in
noncomputable def B7:PyData->PyData->Option PR
 | .list ds,.list es=>if ds=es/\ds.all dTT=true then some (.dat (.bool false)) else none
 | _,_=>none
noncomputable def EH:Prm:=Prm.two GI B7 fun K F H x y u v pr Q hf hx hy hd q=>by
 unfold B7 at hf;split at hf
 ·rename_i ds es;split at hf
  ·rename_i h;cases hf;obtain ⟨rfl,h⟩:=h;obtain ⟨a,us,rfl,s1,z1,d1⟩:=mh hx;obtain ⟨b,ws,rfl,s2,z2,d2⟩:=mh hy;exact ⟨a,b,us,ws,F,ds,rfl,rfl,s1,s2,d1,d2,h,q _ H (ax.rf H) rfl⟩
  ·cases hf
 ·cases hf
theorem xg (hu:X.A.units+64 < cLine):OpR X (compareOp .NotEq) (fun x y=>EH.r X.K [x,y]):=by
 intro pins s σ H x y v u Q I rx ry h;obtain ⟨p,q,us,ws,F,ds,rfl,rfl,s1,s2,d1,d2,hd,k⟩:=h;cases rx;cases ry;obtain ⟨i1,r1,p1,_⟩:=I.list s1;obtain ⟨i2,r2,p2,_⟩:=I.list s2;have n1:=r1.length;have n2:=r2.length;have n3:=d1.len;have n4:=d2.len;have he:∀ j (h1:j < i1.toArray.size) (h2:j < i2.toArray.size),SeqAt.EqAt X.A.in1 s i1.toArray[j] i2.toArray[j] ((fun _=>true) j):=fun j h1 h2=>by
  rw [Hr] at h1 h2;have hj:j < us.length:=by omega
  obtain ⟨a,b,ep,ep2,xs,ys,kvs,e1,e2,l1,l2,q1,q2,q3⟩:=vz d1 d2 hd (Hc hj);obtain ⟨u1,g1,t1⟩:=r1.get (Hc hj);obtain ⟨u2,g2,t2⟩:=r2.get e2;rw [e1] at t1;cases t1;cases t2;have z1:i1.toArray[j]=.ref a:=by simpa using (Hd.mp g1).2
  have z2:i2.toArray[j]=.ref b:=by simpa using (Hd.mp g2).2
  rw [z1,z2];exact CT I l1 l2 q1 q2 q3 (by have:X.A.in1.units=X.A.units+1:=rfl;omega)
 refine SeqAt.RcNeAt.lists p1.isList p2.isList (by rw [Hr,Hr];omega) (by omega) he X.prog X.w _ _ ⟨.bl false,H,I,?_,k⟩;show _=Value.bool false;rw [show (List.range i1.toArray.size).all (fun _=>true)=true by simp];rfl
end
open PySem PySem.Spec PyProof.Rows
theorem eII {X:Cx} {elts:List Expr} {c:Nat} {pt apos pos:Pos} {l:Expr} {tl:TE} (hl:JE X l tl) (hbase:attributeBase l "items" X.env (eval l X.env)=eval l X.env) (hline:(apos.endLine==pos.line)=true):JI X (.Tuple elts c pt) (.Call (.Attribute l "items" apos) [] [] pos) (Cj tl):=⟨BD hl.h hbase hline⟩
section
variable {gd:List PyData} {env:En} {a:XE} {QI:List PyData->Option Nat->En->Prop} {Q:RV->En->Prop} {e:En} {x y:AV}
def Gu (r:RV) (e:En) (QI:List PyData->Option Nat->En->Prop):Prop:=∃ kvs,r.av=.dat (.dict kvs)/\(kvs.all fun p=>k7 p.1)=true/\QI (kvs.map fun p=>.tuple [p.1,p.2]) none e
theorem Ea (h:WE gd a env fun r e=>Gu r e QI):WI gd (.itm a) env QI:=by
 obtain ⟨r,e,h1,kvs,h2,h3,h4⟩:=h;exact ⟨_,_,_,by simp only [dI,h1,h2,h3,Jg],h4⟩
end
end L2
end
set_option bootstrap.genMatcherCode true
section
namespace K80
open PySem PySem.Spec PyProof.Rows L2
noncomputable def top (i:Nat):Stmt:=PySem.Challenge.pw_webshapes_k80_webs_called_otherwise.main.body.getD i (.Pass ⟨0,0,0,0⟩)
noncomputable abbrev bo:Stmt:=top 7
noncomputable abbrev gM:Stmt:=top 8
noncomputable abbrev fy:Stmt:=top 9
noncomputable abbrev eK:Stmt:=top 10
noncomputable abbrev g6:Stmt:=top 11
noncomputable abbrev ip:Stmt:=top 12
noncomputable abbrev hG:Stmt:=top 13
noncomputable abbrev fu:Stmt:=top 14
noncomputable abbrev fo:Stmt:=top 15
noncomputable abbrev gp:Stmt:=top 17
noncomputable abbrev fm:Stmt:=top 18
noncomputable abbrev bB:Stmt:=top 19
noncomputable abbrev b6:Stmt:=top 22
noncomputable abbrev iS:Stmt:=top 23
noncomputable abbrev bA:Stmt:=top 24
noncomputable abbrev bf:Stmt:=top 26
noncomputable abbrev bL:Stmt:=top 27
noncomputable abbrev a8:Stmt:=top 28
noncomputable abbrev a9:Stmt:=top 30
noncomputable abbrev i8:Stmt:=top 31
noncomputable abbrev cN:Stmt:=top 32
noncomputable abbrev bG:Stmt:=top 33
noncomputable abbrev cB:Stmt:=top 34
noncomputable abbrev qg:Stmt:=top 36
noncomputable abbrev m3:Stmt:=top 37
noncomputable abbrev n8:Stmt:=top 38
noncomputable abbrev kG:Stmt:=top 39
noncomputable abbrev oj:Stmt:=top 40
noncomputable abbrev kX:Stmt:=top 41
noncomputable abbrev cK:Stmt:=top 42
noncomputable abbrev cR:Stmt:=top 43
noncomputable abbrev mV:Stmt:=top 44
noncomputable abbrev nW:Stmt:=top 45
noncomputable abbrev jj:Stmt:=top 46
noncomputable abbrev kZ:Stmt:=top 47
noncomputable abbrev fe:Stmt:=top 48
noncomputable def dfs:List (Str×Stmt×List Str):=("are_letters", bo,["thing", "fewest"]) :: ("is_name", gM,["thing"]) :: ("is_whole", fy,["thing"]) :: ("is_number", eK,["thing"]) :: ("is_said", g6,["thing"]) :: ("is_node", ip,["thing"]) :: ("kind_of", hG,["node"]) :: ("node_key", fu,["node"]) :: ("in_order", fo,["nodes"]) :: ("is_fact", gp,["thing"]) :: ("fact_key", fm,["fact"]) :: ("facts_in_order", bB,["facts"]) :: ("are_facts", b6,["things"]) :: ("web_of", iS,["facts"]) :: ("nodes_of", bA,["web"]) :: ("things_among", bf,["nodes"]) :: ("things_in_web", bL,["web"]) :: ("bonds_in_web", a8,["web"]) :: ("refuse_clash", a9,["calls", "names"]) :: ("called", i8,["calls", "name"]) :: ("called_node", cN,["things", "node"]) :: ("called_web", bG,["web", "things", "bonds"]) :: ("renamed_web", cB,["web", "things", "bonds"]) :: ("_law_pen", qg,["_law_script"]) :: ("_law_take", m3,["_law_pen_here", "_law_most"]) :: ("_law_word", n8,["_law_pen_here", "_law_many"]) :: ("_law_words", kG,["_law_pen_here", "_law_most"]) :: ("_law_node", oj,["_law_pen_here", "_law_things"]) :: ("_law_facts", kX,["_law_pen_here", "_law_things", "_law_bonds"]) :: ("_law_called", cK,["_law_pen_here", "_law_names"]) :: ("_law_fact_called", cR,["_law_fact", "_law_things", "_law_bonds"]) :: ("_law_back", mV,["_law_called_here", "_law_names"]) :: ("_law_sort", nW,["_law_node_here"]) :: ("_law_before", jj,["_law_one", "_law_other"]) :: ("_law_right", kZ,["_law_web", "_law_facts_here"]) :: ("law", fe,["_law_script"]) :: []
structure Adr where
 f:Nat->Addr×FuncData
 eR:Tok
 kH:Tok
 iz:Tok
structure Txt (K:Fg) (mg:Str->Option Value) (t:Adr):Prop where
 d:∀ i {x st ps},dfs[i]?=some (x,st,ps)->Fa K mg x st ps (t.f i)
 z_abs:mg "abs" = none
 z_all:mg "all" = none
 z_bool:mg "bool" = none
 z_dict:mg "dict" = none
 z_int:mg "int" = none
 z_isinstance:mg "isinstance" = none
 z_len:mg "len" = none
 z_list:mg "list" = none
 z_range:mg "range" = none
 z_set:mg "set" = none
 z_sorted:mg "sorted" = none
 z_str:mg "str" = none
 z_tuple:mg "tuple" = none
 g_GREATEST_NUMBER:mg "GREATEST_NUMBER" = some (Value.int 999999999999999999999999999999 t.eR)
 g_MOST_FACTS:mg "MOST_FACTS" = some (Value.int 400 t.kH)
 g_MOST_LETTERS:mg "MOST_LETTERS" = some (Value.int 8 t.iz)
theorem iO:ae ["thing", "fewest"] ["thing", "fewest"] (aa bo):=scm
theorem o4:ae ["thing"] ["thing"] (aa gM):=scm
theorem lT:ae ["thing"] ["thing"] (aa fy):=scm
theorem kE:ae ["thing"] ["thing"] (aa eK):=scm
theorem oH:ae ["thing"] ["thing"] (aa g6):=scm
theorem oG:ae ["thing"] ["thing"] (aa ip):=scm
theorem oA:ae ["node"] ["node"] (aa hG):=scm
theorem g9:ae ["node", "kind"] ["node"] (aa fu):=scm
theorem dB:ae ["nodes", "once", "node"] ["nodes"] (aa fo):=scm
theorem oB:ae ["thing"] ["thing"] (aa gp):=scm
theorem lN:ae ["fact"] ["fact"] (aa fm):=scm
theorem aU:ae ["facts", "once", "fact"] ["facts"] (aa bB):=scm
theorem ka:ae ["things"] ["things"] (aa b6):=scm
theorem ly:ae ["facts", "web"] ["facts"] (aa iS):=scm
theorem l0:ae ["web"] ["web"] (aa bA):=scm
theorem gL:ae ["nodes"] ["nodes"] (aa bf):=scm
theorem fG:ae ["web"] ["web"] (aa bL):=scm
theorem gc:ae ["web"] ["web"] (aa a8):=scm
theorem bj:ae ["calls", "names", "one", "other"] ["calls", "names"] (aa a9):=scm
theorem qm:ae ["calls", "name"] ["calls", "name"] (aa i8):=scm
theorem iG:ae ["things", "node"] ["things", "node"] (aa cN):=scm
theorem d6:ae ["web", "things", "bonds", "facts"] ["web", "things", "bonds"] (aa bG):=scm
theorem iF:ae ["web", "things", "bonds"] ["web", "things", "bonds"] (aa cB):=scm
theorem zX:ae ["_law_script"] ["_law_script"] (aa qg):=scm
theorem cp:ae ["_law_pen_here", "_law_most", "_law_at", "_law_cell", "_law_n", "_law_found"] ["_law_pen_here", "_law_most"] (aa m3):=scm
theorem lP:ae ["_law_pen_here", "_law_many", "_law_word_here"] ["_law_pen_here", "_law_many"] (aa n8):=scm
theorem fO:ae ["_law_pen_here", "_law_most", "_law_words_here", "_law_k", "_law_word_here"] ["_law_pen_here", "_law_most"] (aa kG):=scm
theorem sx:ae ["_law_pen_here", "_law_things", "_law_way"] ["_law_pen_here", "_law_things"] (aa oj):=scm
theorem fY:ae ["_law_pen_here", "_law_things", "_law_bonds", "_law_facts_here", "_law_k", "_law_fact"] ["_law_pen_here", "_law_things", "_law_bonds"] (aa kX):=scm
theorem aO:ae ["_law_pen_here", "_law_names", "_law_some", "_law_called_here", "_law_turn", "_law_k", "_law_name", "_law_new"] ["_law_pen_here", "_law_names"] (aa cK):=scm
theorem aM:ae ["_law_fact", "_law_things", "_law_bonds", "_law_thing", "_law_bond", "_law_node_here"] ["_law_fact", "_law_things", "_law_bonds"] (aa cR):=scm
theorem lI:ae ["_law_called_here", "_law_names", "_law_back_here", "_law_name"] ["_law_called_here", "_law_names"] (aa mV):=scm
theorem xJ:ae ["_law_node_here"] ["_law_node_here"] (aa nW):=scm
theorem p5:ae ["_law_one", "_law_other"] ["_law_one", "_law_other"] (aa jj):=scm
theorem nX:ae ["_law_web", "_law_facts_here", "_law_k"] ["_law_web", "_law_facts_here"] (aa kZ):=scm
theorem bD:ae ["_law_script", "_law_pen_here", "_law_things", "_law_bonds", "_law_facts_here", "_law_web", "_law_there", "_law_k", "_law_one", "_law_other", "_law_kept", "_law_found", "_law_due", "_law_back_here"] ["_law_script"] (aa fe):=scm
noncomputable def gds:List PyData:=[]
noncomputable def gav (t:Adr):Nat->V:=fun g=>([]:List V)[g]?.getD .non
theorem aF {K:Fg} {mg:Str->Option Value} {t:Adr} (T:Txt K mg t):∀ g d,gds[g]?=some d->∀ F H,Dm K F H d (gav t g):=by
 intro g d h F H;cases h
noncomputable def dg:XS :=
 (.seq (.ifs (.or (.not (.tst (p1 (jV "str") (vr 0)))) (.not (.tst (.chn leP leP (vr 1) (p1 iy (vr 0)) (ci 8))))) (.ret (.cst (.b false))) .skip)
  (.ret (p1 B2 (.cmp [] (.str (vr 0)) .yes (.chn leP leP (cs "a") (vr 0) (cs "z"))))))
noncomputable def aW:Fn:=bI gds [.dat,.dat] 2 dg
def iK (K:Fg):Sp:=bz aW K
noncomputable def jb:XS :=
 (.ret (.call aW (.cons (vr 0) (.cons (ci 1) .nil))))
noncomputable def aV:Fn:=bI gds [.dat] 1 jb
def oY (K:Fg):Sp:=bz aV K
noncomputable def gG:XS :=
 (.ret (.q0 (p1 (jV "int") (vr 0)) (.yq (p1 (jV "bool") (vr 0)))))
noncomputable def dH:Fn:=bI gds [.dat] 1 gG
def mw (K:Fg):Sp:=bz dH K
noncomputable def fz:XS :=
 (.ret (.q0 (.call dH (.cons (vr 0) .nil)) (p2 leP (p1 B3 (vr 0)) (ci 999999999999999999999999999999))))
noncomputable def cF:Fn:=bI gds [.dat] 1 fz
def lr (K:Fg):Sp:=bz cF K
noncomputable def iR:XS :=
 (.ret (.q0 (p1 (jV "tuple") (vr 0)) (.q0 (p2 eqP (p1 iy (vr 0)) (ci 1)) (.call aW (.cons (p2 ixP (vr 0) (ci 0)) (.cons (ci 0) .nil))))))
noncomputable def fg:Fn:=bI gds [.dat] 1 iR
def oV (K:Fg):Sp:=bz fg K
noncomputable def i9:XS :=
 (.ret (.orv (.call aV (.cons (vr 0) .nil)) (.orv (.call cF (.cons (vr 0) .nil)) (.call fg (.cons (vr 0) .nil)))))
noncomputable def eX:Fn:=bI gds [.dat] 1 i9
def oE (K:Fg):Sp:=bz eX K
noncomputable def ja:XS :=
 (.seq (.ifs (.tst (p1 (jV "str") (vr 0))) (.ret (cs "thing")) .skip)
  (.seq (.ifs (.tst (p1 (jV "tuple") (vr 0))) (.ret (cs "said")) .skip)
  (.ret (cs "number"))))
noncomputable def bR:Fn:=bI gds [.dat] 1 ja
def o5 (K:Fg):Sp:=bz bR K
noncomputable def gz:XS :=
 (.seq (.cM 1 (.call bR (.cons (vr 0) .nil)))
  (.seq (.ifs (.tst (p2 eqP (vr 1) (cs "number"))) (.ret (.tup (.cons (ci 0) (.cons (vr 0) (.cons (cs "") .nil))))) .skip)
  (.seq (.ifs (.tst (p2 eqP (vr 1) (cs "said"))) (.ret (.tup (.cons (ci 1) (.cons (ci 0) (.cons (p2 ixP (vr 0) (ci 0)) .nil))))) .skip)
  (.ret (.tup (.cons (ci 2) (.cons (ci 0) (.cons (vr 0) .nil))))))))
noncomputable def bx:Fn:=bI gds [.dat] 2 gz
def lK (K:Fg):Sp:=bz bx K
noncomputable def gq:XS :=
 (.seq (.oM 1 (.prm oS .nil))
  (.seq (.fr 2 (.lst (vr 0)) (.sto fD 1 (vr 2) (.cst (.b true))))
  (.ret (p1 (Sg.j4 kyS bx rfl) (vr 1)))))
noncomputable def dM:Fn:=bI gds [.dat] 3 gq
def lG (K:Fg):Sp:=bz dM K
noncomputable def jl:XS :=
 (.seq (.ifs (.or (.not (.tst (p1 (jV "tuple") (vr 0)))) (.tst (p2 neP (p1 iy (vr 0)) (ci 3)))) (.ret (.cst (.b false))) .skip)
  (.ret (.q0 (.call aV (.cons (p2 ixP (vr 0) (ci 0)) .nil)) (.q0 (.call aV (.cons (p2 ixP (vr 0) (ci 1)) .nil)) (.call eX (.cons (p2 ixP (vr 0) (ci 2)) .nil))))))
noncomputable def eU:Fn:=bI gds [.dat] 1 jl
def oU (K:Fg):Sp:=bz eU K
noncomputable def gr:XS :=
 (.ret (.tup (.cons (p2 ixP (vr 0) (ci 0)) (.cons (p2 ixP (vr 0) (ci 1)) (.cons (.call bx (.cons (p2 ixP (vr 0) (ci 2)) .nil)) .nil)))))
noncomputable def bW:Fn:=bI gds [.dat] 1 gr
def mJ (K:Fg):Sp:=bz bW K
noncomputable def bN:XS :=
 (.seq (.oM 1 (.prm oS .nil))
  (.seq (.fr 2 (.lst (vr 0)) (.sto fD 1 (vr 2) (.cst (.b true))))
  (.ret (p1 (Sg.j4 fyS bW rfl) (vr 1)))))
noncomputable def aK:Fn:=bI gds [.dat] 3 bN
def eM (K:Fg):Sp:=bz aK K
noncomputable def fv:XS :=
 (.ret (p1 B2 (.cmp [] (.lst (vr 0)) .yes (.call eU (.cons (vr 0) .nil)))))
noncomputable def cQ:Fn:=bI gds [.dat] 1 fv
def j3 (K:Fg):Sp:=bz cQ K
noncomputable def kq:XS :=
 (.seq (.ifs (.or (.not (.tst (p1 yU (vr 0)))) (.not (.tst (.call cQ (.cons (vr 0) .nil))))) .nev .skip)
  (.seq (.cM 1 (p1 qV (.call aK (.cons (vr 0) .nil))))
  (.seq (.ifs (.tst (p2 gtP (p1 iy (vr 1)) (ci 400))) .nev .skip)
  (.ret (vr 1)))))
noncomputable def gE:Fn:=bI gds [.dat] 2 kq
def qM (K:Fg):Sp:=bz gE K
noncomputable def gR:XS :=
 (.ret (.call dM (.cons (p2 lD (.cmp [] (.tup (vr 0)) .yes (p2 ixP (vr 0) (ci 0))) (.cmp [] (.tup (vr 0)) .yes (p2 ixP (vr 0) (ci 2)))) .nil)))
noncomputable def dN:Fn:=bI gds [.dat] 1 gR
def lJ (K:Fg):Sp:=bz dN K
noncomputable def cH:XS :=
 (.ret (.cmp [] (.lst (vr 0)) (.tst (p2 eqP (.call bR (.cons (vr 0) .nil)) (cs "thing"))) (vr 0)))
noncomputable def br:Fn:=bI gds [.dat] 1 cH
def ij (K:Fg):Sp:=bz br K
noncomputable def b8:XS :=
 (.ret (.call br (.cons (.call dN (.cons (vr 0) .nil)) .nil)))
noncomputable def ba:Fn:=bI gds [.dat] 1 b8
def fH (K:Fg):Sp:=bz ba K
noncomputable def cO:XS :=
 (.ret (.cmp [] (.tup (vr 0)) .yes (p2 ixP (vr 0) (ci 1))))
noncomputable def bp:Fn:=bI gds [.dat] 1 cO
def gQ (K:Fg):Sp:=bz bp K
noncomputable def j6:XS :=
 (.ret (.met ur (vr 0) (.cons (vr 1) (.cons (vr 1) .nil))))
noncomputable def bS:Fn:=bI gds [.dat,.dat] 2 j6
def qO (K:Fg):Sp:=bz bS K
noncomputable def cC:XS :=
 (.seq (.frT [2,3] (.itm (vr 0)) (.ifs (.or (.not (.tst (.call aV (.cons (vr 2) .nil)))) (.not (.tst (.call aV (.cons (vr 3) .nil))))) .nev .skip))
  (.ifs (.tst (p2 ltP (p1 tJ (.cmp [0] (.lst (vr 1)) .yes (.call bS (.cons (vr 1) (.cons (vr 0) .nil))))) (p1 tJ (vr 1)))) .nev .skip))
noncomputable def aQ:Fn:=bI gds [.dat,.dat] 4 cC
def g5 (K:Fg):Sp:=bz aQ K
noncomputable def dq:XS :=
 (.ret (.ifx (.tst (p2 eqP (.call bR (.cons (vr 1) .nil)) (cs "thing"))) (.call bS (.cons (vr 0) (.cons (vr 1) .nil))) (vr 1)))
noncomputable def bE:Fn:=bI gds [.dat,.dat] 2 dq
def iL (K:Fg):Sp:=bz bE K
noncomputable def eE:XS :=
 (.seq (.cM 3 (.cmp [1,2] (.tup (vr 0)) .yes (.tup (.cons (.call bS (.cons (vr 1) (.cons (p2 ixP (vr 0) (ci 0)) .nil))) (.cons (.call bS (.cons (vr 2) (.cons (p2 ixP (vr 0) (ci 1)) .nil))) (.cons (.call bE (.cons (vr 1) (.cons (p2 ixP (vr 0) (ci 2)) .nil))) .nil))))))
  (.ret (p1 qV (.call aK (.cons (vr 3) .nil)))))
noncomputable def b4:Fn:=bI gds [.dat,.dat,.dat] 4 eE
def jt (K:Fg):Sp:=bz b4 K
noncomputable def cZ:XS :=
 (.seq (.drop (.call aQ (.cons (vr 1) (.cons (.call ba (.cons (vr 0) .nil)) .nil))))
  (.seq (.drop (.call aQ (.cons (vr 2) (.cons (.call bp (.cons (vr 0) .nil)) .nil))))
  (.ret (.call b4 (.cons (vr 0) (.cons (vr 1) (.cons (vr 2) .nil)))))))
noncomputable def aN:Fn:=bI gds [.dat,.dat,.dat] 3 cZ
def iM (K:Fg):Sp:=bz aN K
noncomputable def AX:XS :=
 (.ret (.dsp (.cons (cs "script") (vr 0) (.cons (cs "at") (ci 0) (.cons (cs "left") (ci 0) .nil)))))
noncomputable def sC:Fn:=bI gds [.dat] 1 AX
def zA (K:Fg):Sp:=bz sC K
noncomputable def rZ:XS :=
 (.seq (.cM 2 (p2 iu (vr 0) (cs "at")))
  (.seq (.ifs (.tst (p2 eqP (p2 iu (vr 0) (cs "left")) (ci 0))) (.seq (.sto fD 0 (cs "at") (p2 lD (vr 2) (ci 1)))
  (.seq (.cM 3 (ci 2539))
  (.seq (.ifs (.tst (p2 gtP (p1 iy (p2 iu (vr 0) (cs "script"))) (ci 0))) (.cM 3 (p2 ixP (p2 iu (vr 0) (cs "script")) (p2 uk (vr 2) (p1 iy (p2 iu (vr 0) (cs "script")))))) .skip)
  (.seq (.ifs (.or (.tst (p2 geP (vr 2) (p1 iy (p2 iu (vr 0) (cs "script"))))) (.tst (p2 ltP (p1 B3 (vr 3)) (p2 Dx (ci 10) (ci 18))))) (.seq (.cM 3 (p2 lD (p2 lD (p2 uk (vr 3) (ci 2147483323)) (p2 vW (ci 198491317) (vr 2))) (ci 1201)))
  (.seq (.cM 4 (p2 uk (p2 vW (vr 3) (ci 69621)) (ci 2147483647)))
  (.seq (.cM 4 (p2 uk (p2 lD (p2 lD (p2 vW (vr 4) (vr 4)) (p2 vW (ci 1399) (vr 4))) (p2 vW (ci 104395301) (vr 2))) (ci 2147483563)))
  (.ret (p2 uk (p2 yi (p2 uk (p2 vW (vr 4) (ci 16807)) (ci 2147483587)) (ci 15)) (vr 1)))))) .skip)
  (.sto fD 0 (cs "left") (p1 B3 (vr 3))))))) .skip)
  (.seq (.cM 5 (p2 uk (p2 iu (vr 0) (cs "left")) (vr 1)))
  (.seq (.sto fD 0 (cs "left") (p2 yi (p2 iu (vr 0) (cs "left")) (vr 1)))
  (.ret (vr 5))))))
noncomputable def au:Fn:=bI gds [.ino,.dat] 6 rZ
def wt (K:Fg):Sp:=bz au K
noncomputable def su:XS :=
 (.seq (.cM 2 (p2 ixP (.lst (.cons (cs "") (.cons (cs "") (.cons (cs "") (.cons (p2 ixP (.lst (.cons (cs "any") (.cons (cs "keeps") (.cons (cs "least") (.cons (cs "is") (.cons (cs "all") (.cons (cs "many") .nil))))))) (.call au (.cons (vr 0) (.cons (ci 6) .nil)))) .nil))))) (.call au (.cons (vr 0) (.cons (ci 4) .nil)))))
  (.seq (.wh 100 (.tst (p2 ltP (p1 iy (vr 2)) (vr 1))) (.cM 2 (p2 lD (vr 2) (p2 ixP (cs "abcdefghijklmnopqrstuvwxyz") (.call au (.cons (vr 0) (.cons (ci 26) .nil)))))))
  (.ret (p2 z6 (vr 2) (vr 1)))))
noncomputable def fb:Fn:=bI gds [.ino,.dat] 3 su
def yb (K:Fg):Sp:=bz fb K
noncomputable def ni:XS :=
 (.seq (.oM 2 (.lst .nil))
  (.seq (.fr 3 (.rng1 (.cons (p2 lD (ci 1) (.call au (.cons (vr 0) (.cons (vr 1) .nil)))) .nil)) (.seq (.cM 4 (.call fb (.cons (vr 0) (.cons (p2 lD (ci 1) (.call au (.cons (vr 0) (.cons (ci 8) .nil)))) .nil))))
  (.ifs (.tst (p2 b7 (vr 4) (vr 2))) (.drop (.mtr EA 2 (.cons (vr 4) .nil))) .skip)))
  (.ret (.tke 2))))
noncomputable def fJ:Fn:=bI gds [.ino,.dat] 5 ni
def uo (K:Fg):Sp:=bz fJ K
noncomputable def pJ:XS :=
 (.seq (.cM 2 (.call au (.cons (vr 0) (.cons (ci 6) .nil))))
  (.seq (.ifs (.tst (p2 ltP (vr 2) (ci 3))) (.ret (p2 ixP (vr 1) (.call au (.cons (vr 0) (.cons (p1 iy (vr 1)) .nil))))) .skip)
  (.seq (.ifs (.tst (p2 eqP (vr 2) (ci 3))) (.ret (p2 ixP (.lst (.cons (p2 BX (.call au (.cons (vr 0) (.cons (ci 5) .nil))) (ci 2)) (.cons (p2 BX (p2 Dx (ci 10) (ci 30)) (ci 1)) .nil))) (.call au (.cons (vr 0) (.cons (ci 2) .nil))))) .skip)
  (.ret (.tup (.cons (p2 ixP (.lst (.cons (p2 ixP (vr 1) (ci 0)) (.cons (.call fb (.cons (vr 0) (.cons (.call au (.cons (vr 0) (.cons (ci 9) .nil))) .nil))) .nil))) (.call au (.cons (vr 0) (.cons (ci 2) .nil)))) .nil))))))
noncomputable def lU:Fn:=bI gds [.ino,.dat] 3 pJ
def wL (K:Fg):Sp:=bz lU K
noncomputable def m8:XS :=
 (.seq (.oM 3 (.lst .nil))
  (.seq (.fr 4 (.rng1 (.cons (.call au (.cons (vr 0) (.cons (ci 25) .nil))) .nil)) (.seq (.cM 5 (.tup (.cons (p2 ixP (vr 1) (.call au (.cons (vr 0) (.cons (p1 iy (vr 1)) .nil)))) (.cons (p2 ixP (vr 2) (.call au (.cons (vr 0) (.cons (p1 iy (vr 2)) .nil)))) (.cons (.call lU (.cons (vr 0) (.cons (vr 1) .nil))) .nil)))))
  (.ifs (.tst (p2 b7 (vr 5) (vr 3))) (.drop (.mtr EA 3 (.cons (vr 5) .nil))) .skip)))
  (.ret (.tke 3))))
noncomputable def jJ:Fn:=bI gds [.ino,.dat,.bor] 6 m8
def uD (K:Fg):Sp:=bz jJ K
noncomputable def gY:XS :=
 (.seq (.cM 2 (.cmp [0] (.lst (vr 1)) (.tst (p2 gtP (.call au (.cons (vr 1) (.cons (ci 3) .nil))) (ci 0))) (vr 0)))
  (.seq (.oM 3 (.prm oS .nil))
  (.seq (.ifs (.and (.tst (p2 gtP (p1 iy (vr 2)) (ci 0))) (.tst (p2 eqP (.call au (.cons (vr 0) (.cons (ci 2) .nil))) (ci 0)))) (.seq (.cM 4 (.call au (.cons (vr 0) (.cons (p1 iy (vr 2)) .nil))))
  (.fr 5 (.rng1 (.cons (p1 iy (vr 2)) .nil)) (.sto fD 3 (p2 ixP (vr 2) (vr 5)) (p2 ixP (vr 2) (p2 uk (p2 lD (vr 5) (vr 4)) (p1 iy (vr 2))))))) (.fr 6 (.lst (vr 2)) (.seq (.cM 7 (.call fb (.cons (vr 0) (.cons (p2 lD (ci 1) (.call au (.cons (vr 0) (.cons (ci 8) .nil)))) .nil))))
  (.ifs (.and (.tst (p2 b7 (vr 7) (vr 1))) (.tst (p2 b7 (vr 7) (p1 uj (vr 3))))) (.sto fD 3 (vr 6) (vr 7)) .skip))))
  (.seq (.ifs (.and (.tst (p2 b7 (cs "zzz") (vr 1))) (.tst (p2 eqP (.call au (.cons (vr 0) (.cons (ci 3) .nil))) (ci 0)))) (.sto fD 3 (cs "zzz") (p2 ixP (vr 1) (ci 0))) .skip)
  (.ret (.tke 3))))))
noncomputable def bY:Fn:=bI gds [.ino,.bor] 8 gY
def mz (K:Fg):Sp:=bz bY K
noncomputable def cY:XS :=
 (.seq (.ym [3,4,5] (vr 0))
  (.seq (.ifs (.tst (p1 (jV "str") (vr 5))) (.cM 5 (.met ur (vr 1) (.cons (vr 5) (.cons (vr 5) .nil)))) .skip)
  (.ret (.tup (.cons (.met ur (vr 1) (.cons (vr 3) (.cons (vr 3) .nil))) (.cons (.met ur (vr 2) (.cons (vr 4) (.cons (vr 4) .nil))) (.cons (vr 5) .nil)))))))
noncomputable def bH:Fn:=bI gds [.dat,.dat,.dat] 6 cY
def iN (K:Fg):Sp:=bz bH K
noncomputable def rD:XS :=
 (.seq (.oM 2 (.prm oS .nil))
  (.seq (.fr 3 (.lst (vr 1)) (.ifs (.tst (p2 (Du false) (vr 3) (vr 0))) (.sto fD 2 (p2 iu (vr 0) (vr 3)) (vr 3)) .skip))
  (.ret (.tke 2))))
noncomputable def jr:Fn:=bI gds [.dat,.dat] 4 rD
def wW (K:Fg):Sp:=bz jr K
noncomputable def pz:XS :=
 (.seq (.ifs (.tst (p1 (jV "str") (vr 0))) (.ret (ci 2)) .skip)
  (.ret (p1 FK (p1 (jV "tuple") (vr 0)))))
noncomputable def eO:Fn:=bI gds [.dat] 1 pz
def xp (K:Fg):Sp:=bz eO K
noncomputable def k9:XS :=
 (.seq (.ifs (.tst (p2 neP (p2 z6 (vr 0) (ci 2)) (p2 z6 (vr 1) (ci 2)))) (.ret (p2 xF (p2 z6 (vr 0) (ci 2)) (p2 z6 (vr 1) (ci 2)))) .skip)
  (.seq (.ifs (.tst (p2 neP (.call eO (.cons (p2 ixP (vr 0) (ci 2)) .nil)) (.call eO (.cons (p2 ixP (vr 1) (ci 2)) .nil)))) (.ret (p2 xF (.call eO (.cons (p2 ixP (vr 0) (ci 2)) .nil)) (.call eO (.cons (p2 ixP (vr 1) (ci 2)) .nil)))) .skip)
  (.ret (p2 xF (p2 ixP (vr 0) (ci 2)) (p2 ixP (vr 1) (ci 2))))))
noncomputable def iq:Fn:=bI gds [.dat,.dat] 2 k9
def pv (K:Fg):Sp:=bz iq K
noncomputable def m6:XS :=
 (.seq (.ifs (.or (.not (.tst (p1 (jV "tuple") (vr 0)))) (.tst (p2 neP (p1 iy (vr 0)) (p1 iy (vr 1))))) (.ret (.cst (.b false))) .skip)
  (.seq (.fr 2 (.rng1 (.cons (p1 iy (vr 0)) .nil)) (.seq (.ifs (.or (.not (.tst (p1 (jV "tuple") (p2 ixP (vr 0) (vr 2))))) (.or (.tst (p2 b7 (p2 ixP (vr 0) (vr 2)) (vr 1))) (.tst (p1 (jV "bool") (p2 ixP (p2 ixP (vr 0) (vr 2)) (ci 2)))))) (.ret (.cst (.b false))) .skip)
  (.ifs (.and (.tst (p2 gtP (vr 2) (ci 0))) (.not (.tst (.call iq (.cons (p2 ixP (vr 0) (p2 BX (vr 2) (ci 1))) (.cons (p2 ixP (vr 0) (vr 2)) .nil)))))) (.ret (.cst (.b false))) .skip)))
  (.ret (.cst (.b true)))))
noncomputable def jK:Fn:=bI gds [.dat,.dat] 3 m6
def tE (K:Fg):Sp:=bz jK K
noncomputable def vF:XS :=
 (.seq (.oM 1 (.call sC (.cons (vr 0) .nil)))
  (.seq (.cM 2 (.call fJ (.cons (vr 1) (.cons (ci 8) .nil))))
  (.seq (.oM 3 (.call fJ (.cons (vr 1) (.cons (ci 4) .nil))))
  (.seq (.ifs (.and (.tst (p2 eqP (.call au (.cons (vr 1) (.cons (ci 3) .nil))) (ci 0))) (.tst (p2 b7 (p2 ixP (vr 2) (ci 0)) (vr 3)))) (.sto AD 3 (ci 0) (p2 ixP (vr 2) (ci 0))) .skip)
  (.seq (.cM 4 (.call jJ (.cons (vr 1) (.cons (vr 2) (.cons (vr 3) .nil)))))
  (.seq (.cM 5 (.call gE (.cons (vr 4) .nil)))
  (.seq (.cM 6 (p2 lD (.cmp [] (.lst (vr 4)) .yes (p2 ixP (vr 0) (ci 0))) (.cmp [] (.lst (vr 4)) (.tst (p1 (jV "str") (p2 ixP (vr 0) (ci 2)))) (p2 ixP (vr 0) (ci 2)))))
  (.seq (.fr 7 (.rng1 (.cons (ci 3) .nil)) (.seq (.cM 8 (.call bY (.cons (vr 1) (.cons (vr 2) .nil))))
  (.seq (.cM 9 (.call bY (.cons (vr 1) (.cons (vr 3) .nil))))
  (.seq (.cM 10 (.lst (.cons (p1 uK (vr 8)) (.cons (p1 uK (vr 9)) .nil))))
  (.seq (.cM 11 (.call aN (.cons (vr 5) (.cons (vr 8) (.cons (vr 9) .nil)))))
  (.seq (.cM 12 (.cmp [8,9] (.lst (vr 4)) .yes (.call bH (.cons (vr 0) (.cons (vr 1) (.cons (vr 2) .nil))))))
  (.seq (.ifs (.or (.tst (p2 EH (.lst (.cons (vr 8) (.cons (vr 9) .nil))) (vr 10))) (.not (.tst (.call jK (.cons (vr 11) (.cons (vr 12) .nil)))))) (.ret (.cst (.b false))) .skip)
  (.seq (.cM 13 (.lst (.cons (.call jr (.cons (vr 8) (.cons (vr 6) .nil))) (.cons (.call jr (.cons (vr 9) (.cons (.cmp [] (.lst (vr 4)) .yes (p2 ixP (vr 0) (ci 1))) .nil))) .nil))))
  (.ifs (.tst (p2 neP (.call aN (.cons (vr 11) (.cons (p2 ixP (vr 13) (ci 0)) (.cons (p2 ixP (vr 13) (ci 1)) .nil)))) (vr 5))) (.ret (.cst (.b false))) .skip)))))))))
  (.ret (p2 eqP (.call aN (.cons (vr 5) (.cons (.prm oS .nil) (.cons (.prm oS .nil) .nil)))) (vr 5)))))))))))
noncomputable def ve:Fn:=bI gds [.dat] 14 vF
def qH (K:Fg):Sp:=bz ve K
section
variable (P:Program) (w:World) (K:Fg) (mg:Str->Option Value) (base:Heap) (t:Adr)
abbrev b5:=aY P w K mg base CX0 1 (t.f 0).1 (t.f 0).2 ["thing", "fewest"] (iK K)
abbrev ey:=aY P w K mg base CX0 2 (t.f 1).1 (t.f 1).2 ["thing"] (oY K)
abbrev i5:=aY P w K mg base CX0 1 (t.f 2).1 (t.f 2).2 ["thing"] (mw K)
abbrev gJ:=aY P w K mg base CX0 2 (t.f 3).1 (t.f 3).2 ["thing"] (lr K)
abbrev k6:=aY P w K mg base CX0 2 (t.f 4).1 (t.f 4).2 ["thing"] (oV K)
abbrev lp:=aY P w K mg base CX0 3 (t.f 5).1 (t.f 5).2 ["thing"] (oE K)
abbrev eD:=aY P w K mg base CX0 1 (t.f 6).1 (t.f 6).2 ["node"] (o5 K)
abbrev eY:=aY P w K mg base CX0 2 (t.f 7).1 (t.f 7).2 ["node"] (lK K)
abbrev iW:=aY P w K mg base CX0 5 (t.f 8).1 (t.f 8).2 ["nodes"] (lG K)
abbrev lq:=aY P w K mg base CX0 4 (t.f 9).1 (t.f 9).2 ["thing"] (oU K)
abbrev iU:=aY P w K mg base CX0 3 (t.f 10).1 (t.f 10).2 ["fact"] (mJ K)
abbrev bg:=aY P w K mg base CX0 6 (t.f 11).1 (t.f 11).2 ["facts"] (eM K)
abbrev gT:=aY P w K mg base CX0 5 (t.f 12).1 (t.f 12).2 ["things"] (j3 K)
abbrev nA:=aY P w K mg base CX0 7 (t.f 13).1 (t.f 13).2 ["facts"] (qM K)
abbrev jf:=aY P w K mg base CX0 6 (t.f 14).1 (t.f 14).2 ["web"] (lJ K)
abbrev de:=aY P w K mg base CX0 2 (t.f 15).1 (t.f 15).2 ["nodes"] (ij K)
abbrev cu:=aY P w K mg base CX0 7 (t.f 16).1 (t.f 16).2 ["web"] (fH K)
abbrev c5:=aY P w K mg base CX0 1 (t.f 17).1 (t.f 17).2 ["web"] (gQ K)
abbrev df:=aY P w K mg base CX0 3 (t.f 18).1 (t.f 18).2 ["calls", "names"] (g5 K)
abbrev fR:=aY P w K mg base CX0 1 (t.f 19).1 (t.f 19).2 ["calls", "name"] (qO K)
abbrev dQ:=aY P w K mg base CX0 2 (t.f 20).1 (t.f 20).2 ["things", "node"] (iL K)
abbrev fx:=aY P w K mg base CX0 7 (t.f 21).1 (t.f 21).2 ["web", "things", "bonds"] (jt K)
abbrev eL:=aY P w K mg base CX0 8 (t.f 22).1 (t.f 22).2 ["web", "things", "bonds"] (iM K)
abbrev zL:=aY P w K mg base CX0 1 (t.f 23).1 (t.f 23).2 ["_law_script"] (zA K)
abbrev f7:=aY P w K mg base CX0 1 (t.f 24).1 (t.f 24).2 ["_law_pen_here", "_law_most"] (wt K)
abbrev mZ:=aY P w K mg base CX0 2 (t.f 25).1 (t.f 25).2 ["_law_pen_here", "_law_many"] (yb K)
abbrev qL:=aY P w K mg base CX0 3 (t.f 26).1 (t.f 26).2 ["_law_pen_here", "_law_most"] (uo K)
abbrev vi:=aY P w K mg base CX0 3 (t.f 27).1 (t.f 27).2 ["_law_pen_here", "_law_things"] (wL K)
abbrev pY:=aY P w K mg base CX0 4 (t.f 28).1 (t.f 28).2 ["_law_pen_here", "_law_things", "_law_bonds"] (uD K)
abbrev jk:=aY P w K mg base CX0 3 (t.f 29).1 (t.f 29).2 ["_law_pen_here", "_law_names"] (mz K)
abbrev eJ:=aY P w K mg base CX0 1 (t.f 30).1 (t.f 30).2 ["_law_fact", "_law_things", "_law_bonds"] (iN K)
abbrev vA:=aY P w K mg base CX0 1 (t.f 31).1 (t.f 31).2 ["_law_called_here", "_law_names"] (wW K)
abbrev vH:=aY P w K mg base CX0 1 (t.f 32).1 (t.f 32).2 ["_law_node_here"] (xp K)
abbrev nP:=aY P w K mg base CX0 2 (t.f 33).1 (t.f 33).2 ["_law_one", "_law_other"] (pv K)
abbrev rn:=aY P w K mg base CX0 3 (t.f 34).1 (t.f 34).2 ["_law_web", "_law_facts_here"] (tE K)
abbrev Ex:=aY P w K mg base CX0 9 (t.f 35).1 (t.f 35).2 ["_law_script"] (qH K)
end
section
variable {P:Program} {w:World} {K:Fg} {mg:Str->Option Value} {base:Heap} {t:Adr} {n:Nat} {cdv:Value} {A:Around} {outer:List Env} {s:Shared} {H:Hp} {E:XK}
theorem iC (T:Txt K mg t):b5 P w K mg base t :=
 (T.d 0 rfl).ok iO (aF T) fun hr=>aG (dt (eW (uS (il (eUx (eIz T.z_isinstance (eVx 0) T.z_str))) (kF (il (xy kY kY (eVx 1) (eBs aE T.z_len (eAx (eVx 0) ai)) (yc (v:=.int 8) rfl T.g_MOST_LETTERS ⟨_,rfl⟩ rfl) (by with_unfolding_all rfl)))))) (aB (a7 eBl)) dO) (aB (a7 (eBs (p7 rfl) T.z_all (eAx (eKx [] (eIS (eVx 0)) eT0 (eC fun _ _ _ _=>(A2 kY kY cg (eVx 0) cg (by with_unfolding_all rfl))) (bsc (sc:=aa bo) rfl (by decide +kernel)) trivial) ai))))
theorem o8 (T:Txt K mg t) (G0:b5 P w K mg base t):ey P w K mg base t :=
 (T.d 1 rfl).ok o4 (aF T) fun hr=>aB (a7 (eCx G0 hr (T.d 0 rfl) (eAx (eVx 0) (eAx ar ai))))
theorem mO (T:Txt K mg t):i5 P w K mg base t :=
 (T.d 2 rfl).ok lT (aF T) fun hr=>aB (a7 (yw (eIz T.z_isinstance (eVx 0) T.z_int) (Bh (Gj (eIz T.z_isinstance (eVx 0) T.z_bool)))))
theorem j0 (T:Txt K mg t) (G2:i5 P w K mg base t):gJ P w K mg base t :=
 (T.d 3 rfl).ok kE (aF T) fun hr=>aB (a7 (yw (eCx G2 hr (T.d 2 rfl) (eAx (eVx 0) ai)) (Bh (yt kY (eBs l5 T.z_abs (eAx (eVx 0) ai)) (yc (v:=.int 999999999999999999999999999999) rfl T.g_GREATEST_NUMBER ⟨_,rfl⟩ rfl) (gN _)))))
theorem oD (T:Txt K mg t) (G0:b5 P w K mg base t):k6 P w K mg base t :=
 (T.d 4 rfl).ok oH (aF T) fun hr=>aB (a7 (yw (eIz T.z_isinstance (eVx 0) T.z_tuple) (yw (yt (cv hr.units) (eBs aE T.z_len (eAx (eVx 0) ai)) ar (gN _)) (Bh (eCx G0 hr (T.d 0 rfl) (eAx (eIy (eVx 0) ar) (eAx ar ai)))))))
theorem oq (T:Txt K mg t) (G1:ey P w K mg base t) (G3:gJ P w K mg base t) (G4:k6 P w K mg base t):lp P w K mg base t :=
 (T.d 5 rfl).ok oG (aF T) fun hr=>aB (a7 (eOr (eCx G1 hr (T.d 1 rfl) (eAx (eVx 0) ai)) (eOr (eCx G3 hr (T.d 3 rfl) (eAx (eVx 0) ai)) (Bh (eCx G4 hr (T.d 4 rfl) (eAx (eVx 0) ai))))))
theorem oO (T:Txt K mg t):eD P w K mg base t :=
 (T.d 6 rfl).ok oA (aF T) fun hr=>aG (dt (eUx (eIz T.z_isinstance (eVx 0) T.z_str)) (aB (a7 cg)) dO) (aG (dt (eUx (eIz T.z_isinstance (eVx 0) T.z_tuple)) (aB (a7 cg)) dO) (aB (a7 cg)))
theorem lX (T:Txt K mg t) (G6:eD P w K mg base t):eY P w K mg base t :=
 (T.d 7 rfl).ok g9 (aF T) fun hr=>aG (eSx g9.nd 1 (eCx G6 hr (T.d 6 rfl) (eAx (eVx 0) ai))) (aG (dt (eTx (cv hr.units) (eVx 1) cg) (aB (a7 (uh (eAx ar (eAx (eVx 0) (eAx cg ai)))))) dO) (aG (dt (eTx (cv hr.units) (eVx 1) cg) (aB (a7 (uh (eAx ar (eAx ar (eAx (eIy (eVx 0) ar) ai)))))) dO) (aB (a7 (uh (eAx ar (eAx ar (eAx (eVx 0) ai))))))))
theorem l6 (T:Txt K mg t) (G7:eY P w K mg base t):iW P w K mg base t :=
 (T.d 8 rfl).ok dB (aF T) fun hr=>aG (eSx dB.nd 1 oJ) (aG (eFx (eIL (eVx 0)) (eGx dB.nd 2) (aB (jL hr.units (eVx 1) (eVx 2) eBl rfl))) (aB (a7 (Sg.vf kyS rfl G7 (hr.mono (by omega)) (T.d 7 rfl).b rfl T.z_sorted (by decide +kernel) rfl (T.d 7 rfl).m rfl (eAx (BZ 1 rfl (Or.inl rfl) rfl rfl) ai) rfl))))
theorem o7 (T:Txt K mg t) (G1:ey P w K mg base t) (G5:lp P w K mg base t):lq P w K mg base t :=
 (T.d 9 rfl).ok oB (aF T) fun hr=>aG (dt (eW (uS (il (eUx (eIz T.z_isinstance (eVx 0) T.z_tuple))) (kF (eTx (lg hr.units) (eBs aE T.z_len (eAx (eVx 0) ai)) ar)))) (aB (a7 eBl)) dO) (aB (a7 (yw (eCx G1 hr (T.d 1 rfl) (eAx (eIy (eVx 0) ar) ai)) (yw (eCx G1 hr (T.d 1 rfl) (eAx (eIy (eVx 0) ar) ai)) (Bh (eCx G5 hr (T.d 5 rfl) (eAx (eIy (eVx 0) ar) ai)))))))
theorem lW (T:Txt K mg t) (G7:eY P w K mg base t):iU P w K mg base t :=
 (T.d 10 rfl).ok lN (aF T) fun hr=>aB (a7 (uh (eAx (eIy (eVx 0) ar) (eAx (eIx dY (eVx 0) ar (fun _ _=>rfl)) (eA (eCl G7 hr (T.d 7 rfl).m (T.d 7 rfl).F.kp (T.d 7 rfl).b (eA (eIx dY (eVx 0) ar (fun _ _=>rfl)) ai rfl)) ai rfl)))))
theorem eZ (T:Txt K mg t) (G10:iU P w K mg base t):bg P w K mg base t :=
 (T.d 11 rfl).ok aU (aF T) fun hr=>aG (eSx aU.nd 1 oJ) (aG (eFx (eIL (eVx 0)) (eGx aU.nd 2) (aB (jL hr.units (eVx 1) (eVx 2) eBl rfl))) (aB (a7 (Sg.vf fyS rfl G10 (hr.mono (by omega)) (T.d 10 rfl).b rfl T.z_sorted (by decide +kernel) rfl (T.d 10 rfl).m rfl (eAx (BZ 1 rfl (Or.inl rfl) rfl rfl) ai) rfl))))
theorem jY (T:Txt K mg t) (G9:lq P w K mg base t):gT P w K mg base t :=
 (T.d 12 rfl).ok ka (aF T) fun hr=>aB (a7 (eBs (p7 rfl) T.z_all (eAx (eKx [] (eIL (eVx 0)) eT0 (eC fun _ _ _ _=>(eCl G9 hr (T.d 9 rfl).m (T.d 9 rfl).F.kp (T.d 9 rfl).b (eA (eVx 0) ai rfl))) (bsc (sc:=aa b6) rfl (by decide +kernel)) trivial) ai)))
theorem sM (T:Txt K mg t) (G12:gT P w K mg base t) (G11:bg P w K mg base t):nA P w K mg base t :=
 (T.d 13 rfl).ok ly (aF T) fun hr=>aG (dt (eW (uS (il (eUx (DY rfl T.z_isinstance (eVx 0) rfl (D0 (v:=.ty "list") rfl T.z_list (by decide +kernel) rfl (by decide) rfl) (D0 (v:=.ty "tuple") rfl T.z_tuple (by decide +kernel) rfl (by decide) rfl)))) (kF (il (eUx (eCx G12 hr (T.d 12 rfl) (eAx (eVx 0) ai))))))) (aB nU) dO) (aG (eSx ly.nd 1 (eTs j7 T.z_tuple (eAx (eCx G11 hr (T.d 11 rfl) (eAx (eVx 0) ai)) ai))) (aG (dt (eTx k0 (eBs aE T.z_len (eAx (eVx 1) ai)) (yc (v:=.int 400) rfl T.g_MOST_FACTS ⟨_,rfl⟩ rfl)) (aB nU) dO) (aB (a7 (eVx 1)))))
theorem lL (T:Txt K mg t) (G8:iW P w K mg base t):jf P w K mg base t :=
 (T.d 14 rfl).ok l0 (aF T) fun hr=>aB (a7 (eCx G8 hr (T.d 8 rfl) (eAx (eOp bc (eKx [] (eIT (eVx 0)) eT0 (eC fun _ _ _ _=>(eIx dY (eVx 0) ar (fun _ _=>rfl))) (bsc (sc:=aa bA) rfl (by decide +kernel)) trivial) (eKx [] (eIT (eVx 0)) eT0 (eC fun _ _ _ _=>(eIx dY (eVx 0) ar (fun _ _=>rfl))) (bsc (sc:=aa bA) rfl (by decide +kernel)) trivial)) ai)))
theorem g8 (T:Txt K mg t) (G6:eD P w K mg base t):de P w K mg base t :=
 (T.d 15 rfl).ok gL (aF T) fun hr=>aB (a7 (eKx [] (eIL (eVx 0)) (eT1 fun _ _ _ _=>(eTx (cv hr.units) (eCl G6 hr (T.d 6 rfl).m (T.d 6 rfl).F.kp (T.d 6 rfl).b (eA (eVx 0) ai rfl)) cg)) (eC fun _ _ _ _=>(eVx 0)) (bsc (sc:=aa bf) rfl (by decide +kernel)) trivial))
theorem fF (T:Txt K mg t) (G15:de P w K mg base t) (G14:jf P w K mg base t):cu P w K mg base t :=
 (T.d 16 rfl).ok fG (aF T) fun hr=>aB (a7 (eCx G15 hr (T.d 15 rfl) (eAx (eCx G14 hr (T.d 14 rfl) (eAx (eVx 0) ai)) ai)))
theorem gj (T:Txt K mg t):c5 P w K mg base t :=
 (T.d 17 rfl).ok gc (aF T) fun hr=>aB (a7 (eKx [] (eIT (eVx 0)) eT0 (eC fun _ _ _ _=>(eIy (eVx 0) ar)) (bsc (sc:=aa a8) rfl (by decide +kernel)) trivial))
theorem gh (T:Txt K mg t) (G1:ey P w K mg base t) (G19:fR P w K mg base t):df P w K mg base t :=
 (T.d 18 rfl).ok bj (aF T) fun hr=>aG (eFx (eII (eVy 0) rfl rfl) (eGT (n:=2) rfl (zT (i:=2) bj.nd rfl (Or.inl rfl) (Or.inl rfl) (zT (i:=3) bj.nd rfl (Or.inl rfl) (Or.inl rfl) Fu)) rfl rfl) (aB (dt (eW (uS (il (eUx (eCx G1 hr (T.d 1 rfl) (eAx (eVx 2) ai)))) (kF (il (eUx (eCx G1 hr (T.d 1 rfl) (eAx (eVx 3) ai))))))) (aB nU) dO))) (aB (dt (eTx kK (eLS rfl rfl T.z_len rfl T.z_set rfl (eKx ["calls"] (eIL (eVx 1)) eT0 (eC fun _ _ _ _=>(eCx G19 hr (T.d 19 rfl) (eAx (eVy 1) (eAx (eVx 0) ai)))) (bsc (sc:=aa a9) rfl (by decide +kernel)) ⟨rfl,⟨rfl,rfl⟩,trivial⟩)) (eLS rfl rfl T.z_len rfl T.z_set rfl (eVx 1))) (aB nU) dO))
theorem rN (T:Txt K mg t):fR P w K mg base t :=
 (T.d 19 rfl).ok qm (aF T) fun hr=>aB (a7 (eBM (eVx 0) (eAx (eVx 1) (eAx (eVx 1) ai)) (jm hr.units) Jt IZ JL rfl rfl rfl rfl rfl))
theorem iI (T:Txt K mg t) (G6:eD P w K mg base t) (G19:fR P w K mg base t):dQ P w K mg base t :=
 (T.d 20 rfl).ok iG (aF T) fun hr=>aB (a7 (eIf (eTx (cv hr.units) (eCx G6 hr (T.d 6 rfl) (eAx (eVx 1) ai)) cg) (eCx G19 hr (T.d 19 rfl) (eAx (eVx 0) (eAx (eVx 1) ai))) (eVx 1)))
theorem jU (T:Txt K mg t) (G20:dQ P w K mg base t) (G19:fR P w K mg base t) (G11:bg P w K mg base t):fx P w K mg base t :=
 (T.d 21 rfl).ok d6 (aF T) fun hr=>aG (wJ (i:=3) ["things", "bonds"] (eIT (eVx 0)) eT0 (eC fun _ _ _ _=>(uh (eAx (eCx G19 hr (T.d 19 rfl) (eAx (eVy 1) (eA (eIx dY (eVx 0) ar (fun _ _=>rfl)) ai rfl))) (eAx (eCl G19 hr (T.d 19 rfl).m (T.d 19 rfl).F.kp (T.d 19 rfl).b (eA (eVy 2) (eA (eIx dY (eVx 0) ar (fun _ _=>rfl)) ai rfl) rfl)) (eA (eCl G20 hr (T.d 20 rfl).m (T.d 20 rfl).F.kp (T.d 20 rfl).b (eA (eVy 1) (eA (eIx dY (eVx 0) ar (fun _ _=>rfl)) ai rfl) rfl)) ai rfl))))) d6.nd rfl rfl rfl rfl (bsc (sc:=aa bG) rfl (by decide +kernel)) (by decide +kernel) ⟨rfl,⟨rfl,rfl⟩,⟨rfl,⟨rfl,rfl⟩,trivial⟩⟩ (fun _=>rfl)) (aB (a7 (eTs j7 T.z_tuple (eAx (eCx G11 hr (T.d 11 rfl) (eAx (eVx 3) ai)) ai))))
theorem iA (T:Txt K mg t) (G18:df P w K mg base t) (G16:cu P w K mg base t) (G17:c5 P w K mg base t) (G21:fx P w K mg base t):eL P w K mg base t :=
 (T.d 22 rfl).ok iF (aF T) fun hr=>aG (tq (eCx G18 hr (T.d 18 rfl) (eAx (eVx 1) (eAx (eCl G16 hr (T.d 16 rfl).m (T.d 16 rfl).F.kp (T.d 16 rfl).b (eA (eVx 0) ai rfl)) ai))) rfl) (aG (tq (eCx G18 hr (T.d 18 rfl) (eAx (eVx 2) (eAx (eCx G17 hr (T.d 17 rfl) (eAx (eVx 0) ai)) ai))) rfl) (aB (a7 (eCx G21 hr (T.d 21 rfl) (eAx (eVx 0) (eAx (eVx 1) (eAx (eVx 2) ai)))))))
theorem AL (T:Txt K mg t):zL P w K mg base t :=
 (T.d 23 rfl).ok zX (aF T) fun hr=>aB (a7 (Bg (ePC cg (eVx 0) (ePC cg ar (ePC cg ar ePN))) (by rfl) (by rfl) (by simp) (by decide)))
theorem vT (T:Txt K mg t):f7 P w K mg base t :=
 (T.d 24 rfl).ok cp (aF T) fun hr=>aG (eSx cp.nd 2 (jI hr.units (eVx 0) cg (fun _ _=>rfl))) (aG (dt (eTx (cv hr.units) (jI hr.units (eVx 0) cg (fun _ _=>rfl)) ar) (aG (jL hr.units (eVx 0) cg (eOp bc (eVx 2) ar) rfl) (aG (eSx cp.nd 3 ar) (aG (dt (eTx k0 (eBs aE T.z_len (eAx (jI hr.units (eVx 0) cg (fun _ _=>rfl)) ai)) ar) (aB (eSx cp.nd 3 (eIy (jI hr.units (eVx 0) cg (fun _ _=>rfl)) (eOp cG (eVx 2) (eBs aE T.z_len (eAx (jI hr.units (eVx 0) cg (fun _ _=>rfl)) ai)))))) dO) (aG (dt (eW (uS (eTx yA (eVx 2) (eBs aE T.z_len (eAx (jI hr.units (eVx 0) cg (fun _ _=>rfl)) ai))) (kF (eTx kK (eBs l5 T.z_abs (eAx (eVx 3) ai)) (eOp rO ar ar))))) (aG (eSx cp.nd 3 (eOp bc (eOp bc (eOp cG (eVx 3) ar) (eOp e7 ar (eVx 2))) ar)) (aG (eSx cp.nd 4 (eOp cG (eOp e7 (eVx 3) ar) ar)) (aG (eSx cp.nd 4 (eOp cG (eOp bc (eOp bc (eOp e7 (eVx 4) (eVx 4)) (eOp e7 ar (eVx 4))) (eOp e7 ar (eVx 2))) ar)) (aB (a7 (eOp cG (eOp nI (eOp cG (eOp e7 (eVx 4) ar) ar) ar) (eVx 1))))))) dO) (aB (jL hr.units (eVx 0) cg (eBs l5 T.z_abs (eAx (eVx 3) ai)) rfl)))))) dO) (aG (eSx cp.nd 5 (eOp cG (jI hr.units (eVx 0) cg (fun _ _=>rfl)) (eVx 1))) (aG (jL hr.units (eVx 0) cg (eOp nI (jI hr.units (eVx 0) cg (fun _ _=>rfl)) (eVx 1)) rfl) (aB (a7 (eVx 5))))))
theorem wb (T:Txt K mg t) (G24:f7 P w K mg base t):mZ P w K mg base t :=
 (T.d 25 rfl).ok lP (aF T) fun hr=>aG (eSx lP.nd 2 (eIy (ub (eAx cg (eA cg (eA cg (eA (eIx dY (ub (eA cg (eA cg (eA cg (eA cg (eA cg (eA cg ai rfl) rfl) rfl) rfl) rfl) rfl)) (eCl G24 hr (T.d 24 rfl).m (T.d 24 rfl).F.kp (T.d 24 rfl).b (eA (eVx 0) (eA ar ai rfl) rfl)) (fun _ _=>rfl)) ai rfl) rfl) rfl))) (eCx G24 hr (T.d 24 rfl) (eAx (eVx 0) (eA ar ai rfl))))) (aG (zq (eTx kK (eBs aE T.z_len (eAx (eVx 2) ai)) (eVx 1)) (aB (eSx lP.nd 2 (eOp bc (eVx 2) (eIy cg (eCx G24 hr (T.d 24 rfl) (eAx (eVx 0) (eAx ar ai))))))) PassesOwn.never) (aB (a7 (eSl (orS kL (orS hZ j5)) (eVx 2) Bx (eP (eVx 1))))))
theorem ud (T:Txt K mg t) (G24:f7 P w K mg base t) (G25:mZ P w K mg base t):qL P w K mg base t :=
 (T.d 26 rfl).ok fO (aF T) fun hr=>aG (eSx fO.nd 2 (ub ai)) (aG (eFx (eR1 rfl T.z_range (eAx (eOp bc ar (eCx G24 hr (T.d 24 rfl) (eAx (eVx 0) (eAx (eVx 1) ai)))) ai) rfl) (eGx fO.nd 3) (aG (eSx fO.nd 4 (eCx G25 hr (T.d 25 rfl) (eAx (eVx 0) (eAx (eOp bc ar (eCx G24 hr (T.d 24 rfl) (eAx (eVx 0) (eAx ar ai)))) ai)))) (aB (dt (kQ (bq hr.units) (eVx 4) (eVx 2) (by with_unfolding_all rfl)) (aB (tq (eBM (eVx 2) (eAx (eVx 4) ai) lh PySem.F.plainAttrs_list PySem.F.slot_list_append PySem.F.type_list_append rfl rfl rfl rfl rfl) rfl)) dO)))) (aB (a7 (eVx 2))))
theorem xV (T:Txt K mg t) (G24:f7 P w K mg base t) (G25:mZ P w K mg base t):vi P w K mg base t :=
 (T.d 27 rfl).ok sx (aF T) fun hr=>aG (eSx sx.nd 2 (eCx G24 hr (T.d 24 rfl) (eAx (eVx 0) (eAx ar ai)))) (aG (dt (eTx kK (eVx 2) ar) (aB (a7 (eIy (eVx 1) (eCx G24 hr (T.d 24 rfl) (eAx (eVx 0) (eAx (eBs aE T.z_len (eAx (eVx 1) ai)) ai)))))) dO) (aG (dt (eTx (cv hr.units) (eVx 2) ar) (aB (a7 (eIy (ub (eAx (eOp mB (eCx G24 hr (T.d 24 rfl) (eAx (eVx 0) (eAx ar ai))) ar) (eAx (eOp mB (eOp rO ar ar) ar) ai))) (eCx G24 hr (T.d 24 rfl) (eAx (eVx 0) (eAx ar ai)))))) dO) (aB (a7 (uh (eAx (eIy (ub (eAx (eIy (eVx 1) ar) (eAx (eCx G25 hr (T.d 25 rfl) (eAx (eVx 0) (eA (eCl G24 hr (T.d 24 rfl).m (T.d 24 rfl).F.kp (T.d 24 rfl).b (eA (eVx 0) (eA ar ai rfl) rfl)) ai rfl))) ai))) (eCx G24 hr (T.d 24 rfl) (eAx (eVx 0) (eAx ar ai)))) ai))))))
theorem t7 (T:Txt K mg t) (G24:f7 P w K mg base t) (G27:vi P w K mg base t):pY P w K mg base t :=
 (T.d 28 rfl).ok fY (aF T) fun hr=>aG (eSx fY.nd 3 (ub ai)) (aG (eFx (eR1 rfl T.z_range (eAx (eCx G24 hr (T.d 24 rfl) (eAx (eVx 0) (eAx ar ai))) ai) rfl) (eGx fY.nd 4) (aG (eSx fY.nd 5 (uh (eAx (eIy (eVx 1) (eCx G24 hr (T.d 24 rfl) (eAx (eVx 0) (eAx (eBs aE T.z_len (eA (eVx 1) ai rfl)) ai)))) (eAx (eIy (eVx 2) (eCx G24 hr (T.d 24 rfl) (eAx (eVx 0) (eA (eBs aE T.z_len (eA (eVx 2) ai rfl)) ai rfl)))) (eAx (eCx G27 hr (T.d 27 rfl) (eAx (eVx 0) (eA (eVx 1) ai rfl))) ai))))) (aB (dt (kQ (bq hr.units) (eVx 5) (eVx 3) (by with_unfolding_all rfl)) (aB (tq (eBM (eVx 3) (eAx (eVx 5) ai) lh PySem.F.plainAttrs_list PySem.F.slot_list_append PySem.F.type_list_append rfl rfl rfl rfl rfl) rfl)) dO)))) (aB (a7 (eVx 3))))
theorem lO (T:Txt K mg t) (G24:f7 P w K mg base t) (G25:mZ P w K mg base t):jk P w K mg base t :=
 (T.d 29 rfl).ok aO (aF T) fun hr=>aG (wJ (i:=2) ["_law_pen_here"] (eIL (eVx 1)) (eT1 fun _ _ _ _=>(eTx k0 (eCx G24 hr (T.d 24 rfl) (eAx (eVy 1) (eA ar ai rfl))) ar)) (eC fun _ _ _ _=>(eVx 0)) aO.nd rfl rfl rfl rfl (bsc (sc:=aa cK) rfl (by decide +kernel)) (by decide +kernel) ⟨rfl,⟨rfl,rfl⟩,trivial⟩ (fun _=>rfl)) (aG (eSx aO.nd 3 oJ) (aG (dt (eW (qt (eTx k0 (eBs aE T.z_len (eAx (eVx 2) ai)) ar) (km (eTx (cv hr.units) (eCx G24 hr (T.d 24 rfl) (eAx (eVy 0) (eAx ar ai))) ar)))) (aG (eSx aO.nd 4 (eCx G24 hr (T.d 24 rfl) (eAx (eVy 0) (eAx (eBs aE T.z_len (eAx (eVx 2) ai)) ai)))) (aB (eFx (eR1 rfl T.z_range (eAx (eBs aE T.z_len (eAx (eVx 2) ai)) ai) rfl) (eGx aO.nd 5) (aB (jL hr.units (eVx 3) (eIy (eVx 2) (eVx 5)) (eIy (eVx 2) (eOp cG (eOp bc (eVx 5) (eVx 4)) (eBs aE T.z_len (eAx (eVx 2) ai)))) rfl))))) (aB (eFx (eIL (eVx 2)) (eGx aO.nd 6) (aG (eSx aO.nd 7 (eCx G25 hr (T.d 25 rfl) (eAx (eVy 0) (eAx (eOp bc ar (eCx G24 hr (T.d 24 rfl) (eAx (eVy 0) (eAx ar ai)))) ai)))) (aB (dt (eW (qt (kQ (bq hr.units) (eVx 7) (eVx 1) (by with_unfolding_all rfl)) (km (kQ (bq hr.units) (eVx 7) (EN rfl rfl T.z_list (eVx 3) rfl rfl) (by with_unfolding_all rfl))))) (aB (jL hr.units (eVx 3) (eVx 6) (eVx 7) rfl)) dO)))))) (aG (dt (eW (qt (kQ (bq hr.units) cg (eVx 1) (by with_unfolding_all rfl)) (km (eTx (cv hr.units) (eCx G24 hr (T.d 24 rfl) (eAx (eVy 0) (eAx ar ai))) ar)))) (aB (jL hr.units (eVx 3) cg (eIy (eVx 1) ar) rfl)) dO) (aB (a7 (eVx 3))))))
theorem iD (T:Txt K mg t):eJ P w K mg base t :=
 (T.d 30 rfl).ok aM (aF T) fun hr=>aG (FH (eVx 0) (eGT (n:=3) rfl (zT (i:=3) aM.nd rfl (Or.inl rfl) (Or.inl rfl) (zT (i:=4) aM.nd rfl (Or.inl rfl) (Or.inl rfl) (zT (i:=5) aM.nd rfl (Or.inl rfl) (Or.inl rfl) Fu))) rfl rfl) rfl rfl rfl) (aG (dt (eUx (eIz T.z_isinstance (eVx 5) T.z_str)) (aB (eSx aM.nd 5 (eBM (eVx 1) (eAx (eVx 5) (eAx (eVx 5) ai)) (jm hr.units) Jt IZ JL rfl rfl rfl rfl rfl))) dO) (aB (a7 (uh (eAx (eBM (eVx 1) (eAx (eVx 3) (eAx (eVx 3) ai)) (jm hr.units) Jt IZ JL rfl rfl rfl rfl rfl) (eAx (eBM (eVx 2) (eAx (eVx 4) (eAx (eVx 4) ai)) (jm hr.units) Jt IZ JL rfl rfl rfl rfl rfl) (eAx (eVx 5) ai)))))))
theorem xA (T:Txt K mg t):vA P w K mg base t :=
 (T.d 31 rfl).ok lI (aF T) fun hr=>aG (eSx lI.nd 2 oJ) (aG (eFx (eIL (eVx 1)) (eGx lI.nd 3) (aB (dt (De hr.units (eVx 3) (eVx 0) (by with_unfolding_all rfl)) (aB (jL hr.units (eVx 2) (jI hr.units (eVx 0) (eVx 3) (fun _ _=>rfl)) (eVx 3) rfl)) dO))) (aB (a7 (eVx 2))))
theorem xK (T:Txt K mg t):vH P w K mg base t :=
 (T.d 32 rfl).ok xJ (aF T) fun hr=>aG (dt (eUx (eIz T.z_isinstance (eVx 0) T.z_str)) (aB (a7 ar)) dO) (aB (a7 (eTs wD T.z_int (eAx (eIz T.z_isinstance (eVx 0) T.z_tuple) ai))))
theorem qo (T:Txt K mg t) (G32:vH P w K mg base t):nP P w K mg base t :=
 (T.d 33 rfl).ok p5 (aF T) fun hr=>aG (dt (eTx (lg hr.units) (eSl (orS kL (orS hZ j5)) (eVx 0) Bx (eP ar)) (eSl (orS kL (orS hZ j5)) (eVx 1) Bx (eP ar))) (aB (a7 (yt (mx hr.pI) (eSl (orS kL (orS hZ j5)) (eVx 0) Bx (eP ar)) (eSl (orS kL (orS hZ j5)) (eVx 1) Bx (eP ar)) (gN _)))) dO) (aG (dt (eTx (lg hr.units) (eCx G32 hr (T.d 32 rfl) (eAx (eIy (eVx 0) ar) ai)) (eCx G32 hr (T.d 32 rfl) (eAx (eIy (eVx 1) ar) ai))) (aB (a7 (yt (mx hr.pI) (eCx G32 hr (T.d 32 rfl) (eAx (eIy (eVx 0) ar) ai)) (eCx G32 hr (T.d 32 rfl) (eAx (eIy (eVx 1) ar) ai)) (gN _)))) dO) (aB (a7 (yt (mx hr.pI) (eIy (eVx 0) ar) (eIy (eVx 1) ar) (gN _)))))
theorem uF (T:Txt K mg t) (G33:nP P w K mg base t):rn P w K mg base t :=
 (T.d 34 rfl).ok nX (aF T) fun hr=>aG (dt (eW (uS (il (eUx (eIz T.z_isinstance (eVx 0) T.z_tuple))) (kF (eTx (lg hr.units) (eBs aE T.z_len (eAx (eVx 0) ai)) (eBs aE T.z_len (eAx (eVx 1) ai)))))) (aB (a7 eBl)) dO) (aG (eFx (eR1 rfl T.z_range (eAx (eBs aE T.z_len (eAx (eVx 0) ai)) ai) rfl) (eGx nX.nd 2) (aG (dt (eW (uS (il (eUx (eIz T.z_isinstance (eIy (eVx 0) (eVx 2)) T.z_tuple))) (uS (kQ (bq hr.units) (eIy (eVx 0) (eVx 2)) (eVx 1) (by with_unfolding_all rfl)) (kF (eUx (eIz T.z_isinstance (eIy (eIy (eVx 0) (eVx 2)) ar) T.z_bool)))))) (aB (a7 eBl)) dO) (aB (dt (eW (qt (eTx k0 (eVx 2) ar) (km (il (eUx (eCx G33 hr (T.d 33 rfl) (eAx (eIy (eVx 0) (eOp mB (eVx 2) ar)) (eAx (eIy (eVx 0) (eVx 2)) ai)))))))) (aB (a7 eBl)) dO)))) (aB (a7 eBl)))
theorem BC (T:Txt K mg t) (G23:zL P w K mg base t) (G26:qL P w K mg base t) (G24:f7 P w K mg base t) (G28:pY P w K mg base t) (G13:nA P w K mg base t) (G29:jk P w K mg base t) (G22:eL P w K mg base t) (G30:eJ P w K mg base t) (G34:rn P w K mg base t) (G31:vA P w K mg base t):Ex P w K mg base t :=
 (T.d 35 rfl).ok bD (aF T) fun hr=>aG (eSx bD.nd 1 (eCx G23 hr (T.d 23 rfl) (eAx (eVx 0) ai))) (aG (eSx bD.nd 2 (eCx G26 hr (T.d 26 rfl) (eAx (eVx 1) (eAx ar ai)))) (aG (eSx bD.nd 3 (eCx G26 hr (T.d 26 rfl) (eAx (eVx 1) (eAx ar ai)))) (aG (dt (eW (qt (eTx (cv hr.units) (eCx G24 hr (T.d 24 rfl) (eAx (eVx 1) (eAx ar ai))) ar) (km (kQ (bq hr.units) (eIy (eVx 2) ar) (eVx 3) (by with_unfolding_all rfl))))) (aB (FH (eIy (eVx 2) ar) (Gd (eVx 3) ar set_list (fun _=>rfl)) rfl rfl rfl)) dO) (aG (eSx bD.nd 4 (eCx G28 hr (T.d 28 rfl) (eAx (eVx 1) (eAx (eVx 2) (eAx (eVx 3) ai))))) (aG (eSx bD.nd 5 (eCx G13 hr (T.d 13 rfl) (eAx (eVx 4) ai))) (aG (eSx bD.nd 6 (eOp bc (eKx [] (eIL (eVx 4)) eT0 (eC fun _ _ _ _=>(eIy (eVx 0) ar)) (bsc (sc:=aa fe) rfl (by decide +kernel)) trivial) (eKx [] (eIL (eVx 4)) (eT1 fun _ _ _ _=>(eUx (eIz T.z_isinstance (eIy (eVx 0) ar) T.z_str))) (eC fun _ _ _ _=>(eIy (eVx 0) ar)) (bsc (sc:=aa fe) rfl (by decide +kernel)) trivial))) (aG (eFx (eR1 rfl T.z_range (eAx ar ai) rfl) (eGx bD.nd 7) (aG (eSy bD.nd 8 (eCx G29 hr (T.d 29 rfl) (eAx (eVx 1) (eAx (eVx 2) ai)))) (aG (eSy bD.nd 9 (eCx G29 hr (T.d 29 rfl) (eAx (eVx 1) (eAx (eVx 3) ai)))) (aG (eSx bD.nd 10 (ub (eAx (eTs mY T.z_dict (eAx (eVy 8) ai)) (eAx (eTs mY T.z_dict (eAx (eVy 9) ai)) ai)))) (aG (eSx bD.nd 11 (eCx G22 hr (T.d 22 rfl) (eAx (eVx 5) (eAx (eVy 8) (eAx (eVy 9) ai))))) (aG (wJ (i:=12) ["_law_one", "_law_other"] (eIL (eVx 4)) eT0 (eC fun _ _ _ _=>(eCx G30 hr (T.d 30 rfl) (eAx (eVx 0) (eAx (eVy 1) (eAx (eVy 2) ai))))) bD.nd rfl rfl rfl rfl (bsc (sc:=aa fe) rfl (by decide +kernel)) (by decide +kernel) ⟨rfl,⟨rfl,rfl⟩,⟨rfl,⟨rfl,rfl⟩,trivial⟩⟩ (fun _=>rfl)) (aG (dt (eW (uS (eTx (xg hr.units) (ub (eAx (eVy 8) (eAx (eVy 9) ai))) (eVx 10)) (kF (il (eUx (eCx G34 hr (T.d 34 rfl) (eAx (eVx 11) (eAx (eVx 12) ai)))))))) (aB (a7 eBl)) dO) (aG (eSx bD.nd 13 (ub (eAx (eCx G31 hr (T.d 31 rfl) (eAx (eVy 8) (eAx (eVx 6) ai))) (eAx (eCx G31 hr (T.d 31 rfl) (eAx (eVy 9) (eAx (eKx [] (eIL (eVx 4)) eT0 (eC fun _ _ _ _=>(eIy (eVx 0) ar)) (bsc (sc:=aa fe) rfl (by decide +kernel)) trivial) ai))) ai)))) (aB (dt (eTx (lg hr.units) (eCx G22 hr (T.d 22 rfl) (eAx (eVx 11) (eAx (eIy (eVx 13) ar) (eAx (eIy (eVx 13) ar) ai)))) (eVx 5)) (aB (a7 eBl)) dO)))))))))) (aB (a7 (yt (cv hr.units) (eCx G22 hr (T.d 22 rfl) (eAx (eVx 5) (eAx oJ (eAx oJ ai)))) (eVx 5) (gN _)))))))))))
end
theorem Bt {P:Program} {w:World} {K:Fg} {mg:Str->Option Value} {base:Heap} {t:Adr} (T:Txt K mg t):aY P w K mg base CX0 9 (t.f 35).1 (t.f 35).2 ["_law_script"] (qH K):=by
 have h0:=AL (P:=P) (w:=w) (base:=base) T;have h1:=vT (P:=P) (w:=w) (base:=base) T;have h2:=wb (P:=P) (w:=w) (base:=base) T h1;have h3:=ud (P:=P) (w:=w) (base:=base) T h1 h2;have h4:=xV (P:=P) (w:=w) (base:=base) T h1 h2;have h5:=t7 (P:=P) (w:=w) (base:=base) T h1 h4;have h6:=iC (P:=P) (w:=w) (base:=base) T;have h7:=o8 (P:=P) (w:=w) (base:=base) T h6;have h8:=mO (P:=P) (w:=w) (base:=base) T;have h9:=j0 (P:=P) (w:=w) (base:=base) T h8;have h10:=oD (P:=P) (w:=w) (base:=base) T h6;have h11:=oq (P:=P) (w:=w) (base:=base) T h7 h9 h10;have h12:=o7 (P:=P) (w:=w) (base:=base) T h7 h11;have h13:=jY (P:=P) (w:=w) (base:=base) T h12;have h14:=oO (P:=P) (w:=w) (base:=base) T;have h15:=lX (P:=P) (w:=w) (base:=base) T h14;have h16:=lW (P:=P) (w:=w) (base:=base) T h15;have h17:=eZ (P:=P) (w:=w) (base:=base) T h16;have h18:=sM (P:=P) (w:=w) (base:=base) T h13 h17;have h19:=lO (P:=P) (w:=w) (base:=base) T h1 h2;have h20:=rN (P:=P) (w:=w) (base:=base) T;have h21:=gh (P:=P) (w:=w) (base:=base) T h7 h20;have h22:=g8 (P:=P) (w:=w) (base:=base) T h14;have h23:=l6 (P:=P) (w:=w) (base:=base) T h15;have h24:=lL (P:=P) (w:=w) (base:=base) T h23;have h25:=fF (P:=P) (w:=w) (base:=base) T h22 h24;have h26:=gj (P:=P) (w:=w) (base:=base) T;have h27:=iI (P:=P) (w:=w) (base:=base) T h14 h20;have h28:=jU (P:=P) (w:=w) (base:=base) T h27 h20 h17;have h29:=iA (P:=P) (w:=w) (base:=base) T h21 h25 h26 h28;have h30:=iD (P:=P) (w:=w) (base:=base) T;have h31:=xK (P:=P) (w:=w) (base:=base) T;have h32:=qo (P:=P) (w:=w) (base:=base) T h31;have h33:=uF (P:=P) (w:=w) (base:=base) T h32;have h34:=xA (P:=P) (w:=w) (base:=base) T;have h35:=BC (P:=P) (w:=w) (base:=base) T h0 h3 h1 h5 h18 h19 h29 h30 h33 h34;exact h35
theorem Bo {K:Fg} {h:Heap} {mg:Str->Option Value} (X:K.In h) (G:h.Ns mainGlobals mg) (D:yl K mg dfs)
  (z_abs:PySem.W.nsIn K mainGlobals "abs" = some none)
  (z_all:PySem.W.nsIn K mainGlobals "all" = some none)
  (z_bool:PySem.W.nsIn K mainGlobals "bool" = some none)
  (z_dict:PySem.W.nsIn K mainGlobals "dict" = some none)
  (z_int:PySem.W.nsIn K mainGlobals "int" = some none)
  (z_isinstance:PySem.W.nsIn K mainGlobals "isinstance" = some none)
  (z_len:PySem.W.nsIn K mainGlobals "len" = some none)
  (z_list:PySem.W.nsIn K mainGlobals "list" = some none)
  (z_range:PySem.W.nsIn K mainGlobals "range" = some none)
  (z_set:PySem.W.nsIn K mainGlobals "set" = some none)
  (z_sorted:PySem.W.nsIn K mainGlobals "sorted" = some none)
  (z_str:PySem.W.nsIn K mainGlobals "str" = some none)
  (z_tuple:PySem.W.nsIn K mainGlobals "tuple" = some none)
  {tk_GREATEST_NUMBER:Tok} (g_GREATEST_NUMBER:PySem.W.nsIn K mainGlobals "GREATEST_NUMBER" = some (some (Value.int 999999999999999999999999999999 tk_GREATEST_NUMBER)))
  {tk_MOST_FACTS:Tok} (g_MOST_FACTS:PySem.W.nsIn K mainGlobals "MOST_FACTS" = some (some (Value.int 400 tk_MOST_FACTS)))
  {tk_MOST_LETTERS:Tok} (g_MOST_LETTERS:PySem.W.nsIn K mainGlobals "MOST_LETTERS" = some (some (Value.int 8 tk_MOST_LETTERS)))
  : ∃ t:Adr,(∀ (s:Shared) (u:Value),BindsTo s (t.f 35).2 ⟨[u],[]⟩ [("_law_script", u)])/\Txt K mg t:=by
 obtain ⟨f,hf⟩:=Gm D
 exact ⟨⟨f,tk_GREATEST_NUMBER,tk_MOST_FACTS,tk_MOST_LETTERS⟩,fun s u=>.of_eq ((hf 35 rfl).c [u] rfl),⟨hf,
  HS X G z_abs,
  HS X G z_all,
  HS X G z_bool,
  HS X G z_dict,
  HS X G z_int,
  HS X G z_isinstance,
  HS X G z_len,
  HS X G z_list,
  HS X G z_range,
  HS X G z_set,
  HS X G z_sorted,
  HS X G z_str,
  HS X G z_tuple,
  PySem.W.mg_of X G g_GREATEST_NUMBER,
  PySem.W.mg_of X G g_MOST_FACTS,
  PySem.W.mg_of X G g_MOST_LETTERS⟩⟩
local macro_rules | `(tactic| walk_at "e")=>`(tactic| (case e9=>exact rfl))
local macro_rules | `(tactic| walk_at "p")=>`(tactic| first | with_reducible refine xP ?_ | walk_at "p0")
local macro_rules | `(tactic| walk_at "p0")=>`(tactic| first
 | (with_reducible first | refine Be ?_ | refine Al ?_ | refine zz ?_ | refine yL ?_ | refine zJ ?_ | refine Ek ?_ | refine zW ?_ | refine C3 ?_ | refine F9 ?_ | refine EX ?_ | refine E1 ?_ | refine Cw ?_ | refine Ey ?_ | refine EB ?_ | refine yN ?_ | refine Dr ?_)
 | ((with_reducible refine w_var (d:=?d9) ?e9 ?_);walk_at "e") | ((with_reducible refine An (d:=?d9) ?e9 ?_);walk_at "e") | ((with_reducible refine yz (d:=?d9) ?e9 ?_);walk_at "e") | ((with_reducible refine zZ (d:=?d9) ?e9 ?_);walk_at "e")
 | ((with_reducible refine Cd (d:=?d9) ?e9 ?_);walk_at "e") | ((with_reducible refine D7 (d:=?d9) ?e9 ?_);walk_at "e") | ((with_reducible refine E7 (d:=?d9) ?e9 ?_);walk_at "e")
 | (with_reducible first | refine ER ?_ | refine z9 ?_ | refine Cf ?_) | ((with_reducible refine DZ (d:=?d9) ?e9 ?f9 ?_);walk_at "e"; (case f9=>exact rfl))
 | (with_reducible first | refine zM ?_ | refine BI ?_ | refine Ec ?_ | refine Ak ?_ | refine ED ?_ | refine yO ?_ | refine zK ?_ | refine D1 ?_ | refine DD rfl ?_ | refine BM rfl ?_ | refine CD ?_ | refine DO ?_ | refine w_and ?_ | refine w_or ?_ | refine w_not ?_ | refine DQ ?_ | refine Gg ?_ | refine GD ?_ | refine Gk ?_ | refine GV ?_ | refine GP ?_ | refine Gi ?_ | refine GA ?_)
 | walk_at "q")
local macro_rules | `(tactic| walk_at "q0")=>`(tactic| first
 | ((with_reducible refine rQ ?e9 ?_);walk_at "e") | ((with_reducible refine mH ?e9 ?_);walk_at "e")
 | ((show WPr _ _ _ _);refine ⟨_,_,rfl,rfl,?_⟩) | ((show WPr _ _ _ _);(refine ⟨_,_,rfl,Ht ?c9,?_⟩);(case c9=>walk_at "c")) | ((show Aw _ _ _ _);refine ⟨_,_,rfl,rfl,?_⟩) | ((show tD _ _ _);refine ⟨_,rfl,?_⟩) | ((show BY _ _ _ _ _ _ _);refine ⟨_,rfl,rfl,?_⟩) | ((show yr _ _ _ _ _ _);refine ⟨_,_,_,rfl,rfl,rfl,?_⟩) | ((show B6 _ _ _ _ _ _);refine ⟨_,rfl,rfl,?_⟩) | ((show B8 _ _ _ _ _);refine ⟨_,_,_,rfl,rfl,rfl,?_⟩) | ((show WMr _ _ _ _ _);refine ⟨_,_,_,_,rfl,rfl,rfl,?_⟩) | ((show WTp _ _ _ _);refine ⟨_,rfl,Nat.le_of_ble_eq_true rfl,?_⟩) | ((show BV _ _ _ _);refine ⟨_,_,rfl,rfl,?_⟩) | ((show zv _ _ _ _);refine ⟨_,rfl,rfl,?_⟩) | ((show qE _ _ _ _);refine ⟨_,rfl,rfl,?_⟩)
 | ((with_reducible refine ⟨_,rfl,?_⟩)))
local macro_rules | `(tactic| walk_at "pp")=>`(tactic| repeat walk_at "p")
local macro_rules | `(tactic| walk_at "c")=>`(tactic| first | exact rfl | assumption | (simp only [mulC,Bool.or_eq_true,HN,Jp] <;> omega))
local macro_rules | `(tactic| walk_at "pz")=>`(tactic| repeat walk_at "p0")
local macro_rules | `(tactic| walk_at "n=")=>`(tactic| ((try dsimp only [Cst.i,Cst.s,Cst.b,Cst.n,RV.av,ag,List.replicate_succ,List.replicate_zero,cf,fA,ao,a6,ay,cq,lS,List.set_cons_zero,List.set_cons_succ,List.getElem?_cons_zero,List.getElem?_cons_succ,List.map_cons,List.map_nil,List.tail_cons,Option.getD_some,decide_true,decide_false,List.drop_succ_cons,List.drop_zero]);exact rfl))
local macro_rules | `(tactic| walk_at "n")=>`(tactic| ((with_reducible first | refine yJ (e':=?e9) ?h9 ?_ | refine xh (e':=?e9) ?h9 ?_ | refine zC (e':=?e9) ?h9 ?_ | refine Gw (e':=?e9) ?h9 ?_ | refine FX (e':=?e9) ?h9 ?_ | refine GF (e':=?e9) ?h9 ?_ | refine FW (e':=?e9) ?h9 ?_ | refine Ge (e':=?e9) ?h9 ?_ | refine Eo (e':=?e9) ?h9 ?_ | refine xI (e':=?e9) ?h9 ?_ | refine C8 (e':=?e9) ?h9 ?_ | refine CC (e':=?e9) ?h9 ?_ | refine CA (e':=?e9) ?h9 ?_ | refine yQ (e':=?e9) ?h9 ?_ | refine zN (e':=?e9) ?h9 ?_ | refine wj (e':=?e9) ?h9 ?_ | refine zu (e':=?e9) ?h9 ?_ | refine A4 (e':=?e9) ?h9 ?_ | refine zx (e':=?e9) ?h9 ?_);(case h9=>walk_at "n=")))
local macro_rules | `(tactic| walk_at "soft")=>`(tactic| first | exact Cp | exact Dq | exact C4 | assumption)
local macro_rules | `(tactic| walk_at "l")=>`(tactic| (rename_i h9;apply i6.out h9;clear h9;dsimp only [uO];intros))
local macro_rules | `(tactic| walk_at "L1")=>`(tactic| first | exact (rfl:i6 [] []) | refine ⟨_,?_,rfl⟩ | ((refine ⟨_,_,?s9,?_,rfl⟩);(case s9=>walk_at "soft")))
local macro_rules | `(tactic| walk_at "L")=>`(tactic| repeat walk_at "L1")
local macro_rules | `(tactic| walk_at "q")=>`(tactic| first | walk_at "q0" | ((show Fo _ _ _ _);refine ⟨_,_,_,rfl,rfl,rfl,?_⟩) | ((show Ff _ _ _ _ _);refine ⟨_,_,rfl,rfl,?_⟩) | ((show zv _ _ _ _);(refine ⟨_,rfl,uz rfl ?s9,?_⟩);(case s9=>walk_at "soft")) | ((show qE _ _ _ _);(refine ⟨_,rfl,uz rfl ?s9,?_⟩);(case s9=>walk_at "soft")))
local macro_rules | `(tactic| walk_at "fT1")=>`(tactic| ((refine oW ?f9 ?_);(case f9=>((refine uz rfl ?s9);(case s9=>walk_at "soft")))))
local macro_rules | `(tactic| walk_at "fT")=>`(tactic| ((refine Bz (e2:=?e9) ?h9 ?_);(case h9=>((repeat walk_at "fT1");exact rfl))))
local macro_rules | `(tactic| walk_at "f")=>`(tactic| ((refine CG ?h9 ?_);(case h9=>((refine uz rfl ?s9);(case s9=>walk_at "soft")));walk_at "n"))
local macro_rules | `(tactic| walk_at "ps1")=>`(tactic| ((fail_if_success (with_reducible refine isEq ?_));walk_at "p"))
local macro_rules | `(tactic| walk_at "ps")=>`(tactic| repeat walk_at "ps1")
theorem dZ {c:Bool} {a b:Prop} (h1:c=true->a) (h2:c=false->b):if c=true then a else b:=by
 cases c with
 | true=>rw [Ht rfl];exact h1 rfl
 | false=>rw [Hv (by decide)];exact h2 rfl
noncomputable def x5 (cs:List Int) (p l:Int):PyData:=.dict [(.str "script", .list (cs.map .int)),(.str "at", .int p),(.str "left", .int l)]
theorem y9 {ns:List Int} {Q:PR->List PyData->Prop} (q:Q (.frs (x5 ns 0 0)) []):WF sC [.list (ns.map .int)] Q:=⟨_,_,rfl,q⟩
theorem xR {cs:List Int} {p l m:Int} {Q:PR->List PyData->Prop} (hp:0<=p) (hb:p < 2 ^ 60) (hl:0<=l) (h0:0 < m) (hm:m < 2 ^ 200) (q:∀ v p' l',0<=v->v < m->0<=p'->p'<=p+1->0<=l'->Q (.dat (.int v)) [x5 cs p' l']):WF au [x5 cs p l,.int m] Q:=by
 refine cJ rfl ?_;have m0:∀ x:Int,0<=x % m/\x % m < m:=fun x=>⟨Int.emod_nonneg _ (by omega),Int.emod_lt_of_pos _ h0⟩;have d0:∀ x:Int,0<=x->0<=x / m:=fun x h=>Int.ediv_nonneg h (Int.le_of_lt h0);have fin:∀ c:Int,0<=(if c < 0 then -c else c):=fun c=>by split <;> omega
 unfold rZ;walk_at "pp";refine dZ (fun e0=>?_) (fun e0=>?_)
 ·walk_at "pp";refine dZ (fun e1=>?_) (fun e1=>?_)
  ·have h1:(0:Int) < (((cs.map PyData.int).length:Nat):Int):=HE e1;obtain ⟨d,hd,ed⟩:=atV (xs:=cs.map PyData.int) (Int.emod_nonneg p (by omega)) (Int.emod_lt_of_pos p h1);obtain ⟨c,_,rfl⟩:=Hk.mp hd;walk_at "pp";refine lC rfl ed ?_;clear ed hd;walk_at "pp";refine dZ (fun e2=>?_) (fun e2=>?_)
   ·walk_at "pp";exact q _ _ _ (m0 _).1 (m0 _).2 (by omega) (by omega) hl
   ·walk_at "pp";refine dZ (fun e3=>?_) (fun e3=>?_)
    ·walk_at "pp";exact q _ _ _ (m0 _).1 (m0 _).2 (by omega) (by omega) hl
    ·walk_at "pp";exact q _ _ _ (m0 _).1 (m0 _).2 (by omega) (by omega) (d0 _ (fin c))
  ·walk_at "pp";refine dZ (fun e2=>?_) (fun e2=>?_)
   ·walk_at "pp";exact q _ _ _ (m0 _).1 (m0 _).2 (by omega) (by omega) hl
   ·walk_at "pp";exact q _ _ _ (m0 _).1 (m0 _).2 (by omega) (by omega) hl
 ·walk_at "pp";exact q _ _ _ (m0 l).1 (m0 l).2 hp (by omega) (d0 l hl)
def aZ (cs:List Int) (B:Nat) (d:PyData):Prop:=∃ p l:Int,d=x5 cs p l/\0<=p/\p<=B/\0<=l
theorem aZ.mono {cs:List Int} {B C:Nat} {d:PyData} (h:aZ cs B d) (hb:B<=C):aZ cs C d:=by
 obtain ⟨p,l,e,a,b,c⟩:=h;exact ⟨p,l,e,a,by omega,c⟩
theorem Cc {cs:List Int} {B:Nat} {pn:PyData} {m:Int} {e1:En} {Q:RV->En->Prop} {i:Nat} (hi:aC e1 i=some pn) (hP:aZ cs B pn) (hb:B < 2 ^ 60) (h0:0 < m) (hm:m < 2 ^ 200) (q:∀ v pn',aZ cs (B+1) pn'->0<=v->v < m->Q (.dat (.int v)) (fA e1 i pn')):oZ au [.bor i,.dat (.int m)] e1 Q:=by
 obtain ⟨p,l,rfl,hp,hb',hl⟩:=hP;refine ab (ds:=[x5 cs p l,.int m]) (is:=[i]) ?_ rfl (xR hp (by omega) hl h0 hm fun v p' l' a b c d e=>⟨?_,q v _ ⟨p',l',rfl,c,by omega,e⟩ a b⟩)
 ·show iH e1 [.ino,.dat] _=_;simp only [iH,EK,hi]
 ·rfl
def Ltr (x:Str):Prop:=∀ c∈x.cps.toList,97<=c/\c<=122
abbrev abc:Str := "abcdefghijklmnopqrstuvwxyz"
theorem mL (x y:Str):(x++y).length=x.length+y.length:=gm x y
theorem mE (x y:Str):(x++y).cps.toList=x.cps.toList++y.cps.toList:=by
 show (x.cps++y.cps).toList=_;simp
theorem jP (c:Nat):(⟨#[c]⟩:Str).length=1:=rfl
theorem xD {x y:Str} (hx:Ltr x) (hy:Ltr y):Ltr (x++y):=fun c hc=>by
 rw [mE] at hc;rcases HK.mp hc with h | h
 ·exact hx c h
 ·exact hy c h
inductive Nd
 | num (n:Int)
 | cm (x:Str)
 | ak (x:Str)
noncomputable def Nd.enc:Nd->PyData
 | .num n=>.int n
 | .cm x=>.tuple [.str x]
 | .ak x=>.str x
noncomputable def Nd.key:Nd->Ky
 | .num n=>(0,n, "")
 | .cm x=>(1,0,x)
 | .ak x=>(2,0,x)
noncomputable def BS (k:Ky):PyData:=.tuple [.int k.1,.int k.2.1,.str k.2.2]
noncomputable def ltN (a b:Nd):Bool:=ltK a.key b.key
theorem jS:∀ {a b:Nd},a.key=b.key->a=b
 | .num n,.num m,h=>by have:n=m:=congrArg (·.2.1) h;rw [this]
 | .cm x,.cm y,h=>by have:x=y:=congrArg (·.2.2) h;rw [this]
 | .ak x,.ak y,h=>by have:x=y:=congrArg (·.2.2) h;rw [this]
 | .num _,.cm _,h=>by have:=congrArg (·.1) h;simp [Nd.key] at this
 | .num _,.ak _,h=>by have:=congrArg (·.1) h;simp [Nd.key] at this
 | .cm _,.num _,h=>by have:=congrArg (·.1) h;simp [Nd.key] at this
 | .cm _,.ak _,h=>by have:=congrArg (·.1) h;simp [Nd.key] at this
 | .ak _,.num _,h=>by have:=congrArg (·.1) h;simp [Nd.key] at this
 | .ak _,.cm _,h=>by have:=congrArg (·.1) h;simp [Nd.key] at this
theorem se:∀ {a b:Nd},PyData.eqv a.enc b.enc=true->a=b
 | .num n,.num m,h=>by
  have:n=m:=by simpa [Nd.enc,PyData.eqv] using h
  rw [this]
 | .cm x,.cm y,h=>by
  have:x=y:=by simpa [Nd.enc,PyData.eqv,PyData.eqvAll] using h
  rw [this]
 | .ak x,.ak y,h=>by
  have:x=y:=by simpa [Nd.enc,PyData.eqv] using h
  rw [this]
 | .num _,.cm _,h=>by simp [Nd.enc,PyData.eqv] at h
 | .num _,.ak _,h=>by simp [Nd.enc,PyData.eqv] at h
 | .cm _,.num _,h=>by simp [Nd.enc,PyData.eqv] at h
 | .cm _,.ak _,h=>by simp [Nd.enc,PyData.eqv] at h
 | .ak _,.num _,h=>by simp [Nd.enc,PyData.eqv] at h
 | .ak _,.cm _,h=>by simp [Nd.enc,PyData.eqv] at h
theorem nh (a:Nd):PyData.eqv a.enc a.enc=true:=by
 cases a <;> simp [Nd.enc,PyData.eqv,PyData.eqvAll]
theorem wo (a:Nd):noD a.enc=true:=by cases a <;> rfl
theorem qD (a:Nd):a.enc.depth<=2:=by
 cases a with
 | num n=>simp [Nd.enc,PyData.depth]
 | ak n=>simp [Nd.enc,PyData.depth]
 | cm n=>simp [Nd.enc,PyData.depth,PyData.depthAll]
theorem AG (a:Nd):hk6 a.enc=true:=by
 unfold hk6;rw [HN];exact ⟨by cases a <;> rfl,HD (HJ (qD a) (by omega))⟩
theorem my {a:Nd} {Q:PR->List PyData->Prop} (q:Q (.dat (.str (match a with | .num _ => "number" | .cm _ => "said" | .ak _ => "thing"))) []):WF bR [a.enc] Q:=by
 refine cJ rfl ?_;unfold ja;cases a <;> (unfold Nd.enc;walk_at "pp"; exact q)
theorem vm {a:Nd} {Q:PR->List PyData->Prop} (q:Q (.dat (BS a.key)) []):WF bx [a.enc] Q:=by
 refine cJ rfl ?_;unfold gz;walk_at "pp";refine ab (ds:=[a.enc]) (is:=[]) rfl rfl (my ⟨rfl,?_⟩);walk_at "n";cases a with
 | num n =>
  unfold Nd.enc;walk_at "pp";exact q
 | cm n =>
  unfold Nd.enc;walk_at "pp";exact q
 | ak n =>
  unfold Nd.enc;walk_at "pp";exact q
def Nd.sm (a:Nd):Prop:=match a with | .num n=>-1000000000000000000000000000000 < n/\n < 1000000000000000000000000000000 | .cm x=>Ltr x/\x.length<=8 | .ak x=>Ltr x/\x.length<=8/\0 < x.length
structure Fc where
 t:Str
 b:Str
 n:Nd
noncomputable def Fc.enc (f:Fc):PyData:=.tuple [.str f.t,.str f.b,f.n.enc]
def Nam (x:Str):Prop:=Ltr x/\x.length<=8/\0 < x.length
def Fc.sm (f:Fc):Prop:=Nam f.t/\Nam f.b/\f.n.sm
noncomputable def Fc.key (f:Fc):Fy:=(f.t,f.b,f.n.key)
noncomputable def sU (a b:Fc):Bool:=ltF a.key b.key
theorem jz {a b:Fc} (h:a.key=b.key):a=b:=by
 obtain ⟨a1,a2,a3⟩:=a;obtain ⟨b1,b2,b3⟩:=b;have h1:a1=b1:=congrArg (·.1) h;have h2:a2=b2:=congrArg (·.2.1) h;have h3:a3=b3:=jS (congrArg (·.2.2) h);rw [h1,h2,h3]
theorem jO {a b:Fc} (h:PyData.eqv a.enc b.enc=true):a=b:=by
 obtain ⟨a1,a2,a3⟩:=a;obtain ⟨b1,b2,b3⟩:=b;have h:a1=b1/\a2=b2/\PyData.eqv a3.enc b3.enc=true:=by simpa [Fc.enc,PyData.eqv,PyData.eqvAll] using h
 rw [h.1,h.2.1,se h.2.2]
theorem eG (a:Fc):PyData.eqv a.enc a.enc=true:=by
 simp [Fc.enc,PyData.eqv,PyData.eqvAll,nh]
theorem jQ (a:Fc):noD a.enc=true:=by
 simp [Fc.enc,noD,dG,wo]
theorem ng (a:Fc):a.enc.depth<=3:=by
 refine gU (k:=2) fun d hd=>?_;simp only [Hz,List.mem_nil_iff,or_false] at hd;rcases hd with rfl | rfl | rfl
 ·simp [PyData.depth]
 ·simp [PyData.depth]
 ·exact qD _
theorem we (a:Fc):hk6 a.enc=true:=by
 unfold hk6;rw [HN];refine ⟨?_,HD (HJ (ng a) (by omega))⟩;obtain ⟨t,b,n⟩:=a;cases n <;> rfl
theorem wG {a:Fc} {Q:PR->List PyData->Prop} (q:Q (.dat (.tuple [.str a.t,.str a.b,BS a.n.key])) []):WF bW [a.enc] Q:=by
 refine cJ rfl ?_;unfold gr Fc.enc;walk_at "pp";refine ab (ds:=[a.n.enc]) (is:=[]) rfl rfl (vm ⟨rfl,?_⟩);walk_at "n";walk_at "pp";exact q
structure Lo {α:Type} (lt:α->α->Bool):Prop where
 irr:∀ a,lt a a=false
 tr:∀ {a b c},lt a b=true->lt b c=true->lt a c=true
 tot:∀ {a b},lt a b=false->lt b a=false->a=b
abbrev Srt {α:Type} (lt:α->α->Bool) (L:List α):Prop:=L.Pairwise fun x y=>lt x y=true
section
variable {α:Type} {lt:α->α->Bool} (O:Lo lt)
include O
theorem fQ (a:α):∀ {L:List α},Srt lt L->L.filter (fun b=>lt b a)++L.filter (fun b=>!lt b a)=L
 | [],_=>rfl
 | x :: r,h=>by
  obtain ⟨h1,h2⟩:=Jk.mp h;by_cases hx:lt x a=true
  ·rw [List.filter_cons_of_pos (p:=fun b=>lt b a) hx,List.filter_cons_of_neg (by simp [hx]),List.cons_append,fQ a h2]
  ·have hx:lt x a=false:=by simpa using hx
   have hr:r.filter (fun b=>lt b a)=[]:=by
    rw [List.filter_eq_nil_iff];intro y hy hya;rw [O.tr (h1 y hy) hya] at hx;cases hx
   have hq:r.filter (fun b=>!lt b a)=r:=by
    have:=fQ a h2;rw [hr] at this;exact this
   rw [List.filter_cons_of_neg (by simp [hx]),List.filter_cons_of_pos (by simp [hx]),hr,hq];rfl
theorem cz {L:List α} (h:Srt lt L):L.Nodup:=h.imp fun {a b} z e=>by rw [e,O.irr] at z;cases z
theorem xo {L:List α} {a:α} (h:Srt lt L) (hn:a ∉ L):∃ F G,L=F++G/\L.filter (fun b=>lt b a)=F/\Srt lt (F++a :: G):=by
 refine ⟨L.filter (fun b=>lt b a),L.filter (fun b=>!lt b a),(fQ O a h).symm,rfl,?_⟩;have h':=h;rw [<- fQ O a h] at h';obtain ⟨p1,p2,p3⟩:=List.pairwise_append.mp h';have h2:∀ g∈L.filter (fun b=>!lt b a),lt a g=true:=fun g hg=>by
  obtain ⟨z1,z2⟩:=List.mem_filter.mp hg;rw [Bool.not_eq_true'] at z2;cases e:lt a g with
  | true=>rfl
  | false=>exact absurd (O.tot e z2▸z1) hn
 refine List.pairwise_append.mpr ⟨p1,Jk.mpr ⟨h2,p2⟩,fun f hf g hg=>?_⟩;rcases Hz.mp hg with rfl | hg
 ·exact (List.mem_filter.mp hf).2
 ·exact p3 f hf g hg
theorem nK:∀ gs:List α,∃ L:List α,Srt lt L/\∀ a,a∈L↔a∈gs
 | []=>⟨[],.nil,fun _=>Iff.rfl⟩
 | a :: gs=>by
  obtain ⟨L,hL,hm⟩:=nK gs;by_cases h:a∈L
  ·exact ⟨L,hL,fun b=>by
    rw [Hz,<-hm b]
    exact ⟨.inr,fun z=>z.elim (fun e=>e▸h) id⟩⟩
  ·obtain ⟨F,G,rfl,_,s⟩:=xo O hL h;refine ⟨F++a :: G,s,fun b=>?_⟩;rw [Hz,<-hm b,HK,HK,Hz];exact ⟨fun z=>z.elim (fun z=>.inr (.inl z)) fun z=>z.elim .inl fun z=>.inr (.inr z),fun z=>z.elim (fun z=>.inr (.inl z)) fun z=>z.elim .inl fun z=>.inr (.inr z)⟩
end
section
variable {α:Type} {enc:α->PyData} (inj:∀ {a b:α},PyData.eqv (enc a) (enc b)=true->a=b) (rfl_:∀ a,PyData.eqv (enc a) (enc a)=true)
abbrev kvs (enc:α->PyData) (U:List α):List (PyData×PyData):=U.map fun a=>(enc a,PyData.bool true)
theorem fX {U:List α}:(kvs enc U).map (·.1)=U.map enc:=by unfold kvs;rw [HX];rfl
include inj rfl_
theorem qd {ns U:List α} {i:Nat} {a:α} (hU:U.Nodup) (hM:∀ a,a∈U↔a∈ns.take i) (hz:U.length<=i) (ha:ns[i]?=some a):∃ V:List α,putD (kvs enc U) (enc a) (.bool true)=kvs enc V/\V.Nodup/\(∀ b,b∈V↔b∈ns.take (i+1))/\V.length<=i+1:=by
 by_cases h:a∈U
 ·refine ⟨U,?_,hU,fun b=>?_,by omega⟩
  ·unfold putD;rw [Ht (by rw [IK];exact ⟨_,Hk.mpr ⟨a,h,rfl⟩,rfl_ a⟩),HX];refine IM fun b _=>?_;show (if PyData.eqv (enc b) (enc a)=true then (enc b,PyData.bool true) else (enc b,PyData.bool true))=_;split <;> rfl
  ·rw [<- IC ha,HK,hM b];exact ⟨.inl,fun z=>z.elim id fun z=>by rw [Hj.mp z];exact (hM a).mp h⟩
 ·refine ⟨U++[a],?_,IY.mpr ⟨hU,by simp,fun x hx y hy e=>h (Hj.mp hy▸e▸hx)⟩,fun b=>?_,by rw [Hq];show _+1<=_;omega⟩
  ·unfold putD;rw [Hv (fun z=>?_)]
   ·unfold kvs;rw [HH];rfl
   ·rw [IK] at z;obtain ⟨x,hx,e⟩:=z;obtain ⟨b,hb,rfl⟩:=Hk.mp hx;exact h (inj e▸hb)
  ·rw [<- IC ha,HK,HK,hM b]
theorem fM {a:α}:∀ {L:List α},nz (L.map enc) (enc a)=true↔a∈L
 | []=>by simp [nz]
 | b :: L=>by
  have ih:=fM (a:=a) (L:=L);unfold nz at ih ⊢;rw [List.map_cons,Jb,Bool.or_eq_true,ih,Hz];exact ⟨fun z=>z.elim (fun z=>.inl (inj z).symm) .inr,fun z=>z.elim (fun e=>.inl (e▸rfl_ _)) .inr⟩
end
theorem rB {e:En} {x y:AV} {d:PyData} {ds:List PyData} {Q:RV->En->Prop} (h1:aD e [x,y]=some [d,.list ds]) (h2:p6 d=true) (h3:dG ds=true) (q:Q (.dat (.bool (!nz ds d))) e):WPr b7 [x,y] e Q:=by
 refine ⟨_,.dat (.bool (!nz ds d)),h1,?_,q⟩;cases d with
 | dict kvs=>simp [p6,noD] at h2
 | _=>(show (if p6 _=true/\dG ds=true then some (PR.dat (.bool (ngB true (nz ds _)))) else none)=_);rw [Ht ⟨h2,h3⟩];rfl
theorem loN:Lo ltN:=⟨fun a=>jG _,fun h1 h2=>r8 h1 h2,fun {a b} h h2=>by
 apply Iz;intro hn;have:=mK (fun z=>hn (jS z)) h;unfold ltN at h2;rw [this] at h2
 cases h2⟩
theorem loF:Lo sU:=⟨fun a=>qX _,fun h1 h2=>u7 h1 h2,fun {a b} h h2=>by
 apply Iz;intro hn;have:=pU (fun z=>hn (jz z)) h;unfold sU at h2;rw [this] at h2
 cases h2⟩
local macro_rules | `(tactic| walk_at "py1")=>`(tactic| ((fail_if_success (with_reducible refine D8 ?_));walk_at "p"))
local macro_rules | `(tactic| walk_at "py")=>`(tactic| repeat walk_at "py1")
local macro_rules | `(tactic| walk_at "pt1")=>`(tactic| ((fail_if_success (with_reducible refine isDin ?_));walk_at "p"))
local macro_rules | `(tactic| walk_at "pt")=>`(tactic| repeat walk_at "pt1")
local macro_rules | `(tactic| walk_at "pw1")=>`(tactic| ((fail_if_success (with_reducible refine isDpop ?_));walk_at "p"))
local macro_rules | `(tactic| walk_at "pw")=>`(tactic| repeat walk_at "pw1")
noncomputable def Nd.kd:Nd->Int | .num _=>0 | .cm _=>1 | .ak _=>2
theorem jA {a:Nd} {Q:PR->List PyData->Prop} (q:Q (.dat (.int a.kd)) []):WF eO [a.enc] Q:=by
 refine cJ rfl ?_;unfold pz;cases a <;> (unfold Nd.enc;walk_at "pp"; exact q)
theorem lt_str {x y:Str}:(if x=y then false else decide (x.cps.toList < y.cps.toList))=decide (x.cps.toList < y.cps.toList):=by
 split
 ·rename_i h;rw [h,HM (Jl _)]
 ·rfl
theorem DC {e:En} {x y:AV} {d d':PyData} {z:Bool} {Q:RV->En->Prop} (h1:aD e [x,y]=some [d,d']) (h2:BN d d'=some (.dat (.bool z))) (q:Q (.dat (.bool z)) e):WPr xF [x,y] e Q:=⟨_,.dat (.bool z),h1,h2,q⟩
theorem D8 {avs:List AV} {e:En} {Q:RV->En->Prop} (h:WPr xF avs e Q):WPr xF avs e Q:=h
theorem vX {a b:Nd} (hk:a.kd=b.kd):BN a.enc b.enc=some (.dat (.bool (ltN a b))):=by
 cases a with
 | num n =>
  cases b with
  | num m =>
   have:decide (n < m)=ltN (.num n) (.num m):=by
    unfold ltN ltK;show decide (n < m)=(if n=m then decide ((Str.ofString "").cps.toList < (Str.ofString "").cps.toList) else decide (n < m));split
    ·rename_i h;rw [h,HM (Jl _)];exact HM (by omega)
    ·rfl
   rw [<- this];rfl
  | cm y=>cases hk
  | ak y=>cases hk
 | cm x =>
  cases b with
  | num m=>cases hk
  | cm y =>
   have:(if x=y then false else decide (x.cps.toList < y.cps.toList))=ltN (.cm x) (.cm y):=lt_str;rw [<- this];rfl
  | ak y=>cases hk
 | ak x =>
  cases b with
  | num m=>cases hk
  | cm y=>cases hk
  | ak y=>rfl
theorem pL {a b:Fc} {Q:PR->List PyData->Prop} (q:Q (.dat (.bool (sU a b))) []):WF iq [a.enc,b.enc] Q:=by
 have e0:sU a b=if a.t=b.t then (if a.b=b.b then ltN a.n b.n else decide (a.b.cps.toList < b.b.cps.toList)) else decide (a.t.cps.toList < b.t.cps.toList):=rfl
 rw [e0] at q;have ev:PyData.eqv (.tuple [.str a.t,.str a.b]) (.tuple [.str b.t,.str b.b])=(decide (a.t=b.t)&&decide (a.b=b.b)):=by
  show (PyData.eqv (.str a.t) (.str b.t)&&(PyData.eqv (.str a.b) (.str b.b)&&true))=_;rw [mG,mG,Bool.and_true]
 refine cJ rfl ?_;unfold k9 Fc.enc;walk_at "ps";refine FA (d:=.tuple [.str a.t,.str a.b]) (d':=.tuple [.str b.t,.str b.b]) rfl rfl rfl ?_;rw [ev];walk_at "pp";by_cases h1:a.t=b.t
 ·rw [Ht h1] at q;by_cases h2:a.b=b.b
  ·rw [Ht h2] at q;refine mH (by simp [h1,h2]) ?_;walk_at "pp";refine ab (ds:=[a.n.enc]) (is:=[]) rfl rfl (jA ⟨rfl,?_⟩);walk_at "pp";refine ab (ds:=[b.n.enc]) (is:=[]) rfl rfl (jA ⟨rfl,?_⟩);walk_at "pp";by_cases hk:a.n.kd=b.n.kd
   ·refine mH (by simp [PyData.eqv,hk]) ?_;walk_at "py";refine DC (d:=a.n.enc) (d':=b.n.enc) rfl (vX hk) ?_;walk_at "pp";exact q
   ·refine rQ (by simp [PyData.eqv,hk]) ?_;walk_at "pp";refine ab (ds:=[a.n.enc]) (is:=[]) rfl rfl (jA ⟨rfl,?_⟩);walk_at "pp";refine ab (ds:=[b.n.enc]) (is:=[]) rfl rfl (jA ⟨rfl,?_⟩);walk_at "pp";have e:ltN a.n b.n=decide (a.n.kd < b.n.kd):=by
     have h1:∀ a:Nd,a.key.1=a.kd:=fun a=>by cases a <;> rfl
     unfold ltN ltK;rw [h1,h1,Hv hk]
    rw [e] at q;exact q
  ·rw [Hv h2] at q;refine rQ (by simp [h2]) ?_;walk_at "pp";show Q (.dat (.bool (if a.t=b.t then (if a.b=b.b then false else decide (a.b.cps.toList < b.b.cps.toList)) else decide (a.t.cps.toList < b.t.cps.toList)))) [];rw [Ht h1,Hv h2];exact q
 ·rw [Hv h1] at q;refine rQ (by simp [h1]) ?_;walk_at "pp";show Q (.dat (.bool (if a.t=b.t then (if a.b=b.b then false else decide (a.b.cps.toList < b.b.cps.toList)) else decide (a.t.cps.toList < b.t.cps.toList)))) [];rw [Hv h1];exact q
noncomputable def chB (c:Nat):Bool:=decide (97<=c)&&decide (c<=122)
noncomputable def pe (d:PyData) (k:Int):Bool:=match d with
 | .str x=>decide (k<=(x.length:Int))&&(decide ((x.length:Int)<=8)&&x.cps.toList.all chB)
 | _=>false
theorem GC (c:Nat):leS (Str.ofString "a") ⟨#[c]⟩=decide (97<=c):=by
 have e:(Str.ofString "a").cps.toList=[97]:=by decide +kernel
 unfold leS;rw [e];by_cases h:97<=c
 ·rw [HD h,HM]
  ·rfl
  ·intro z;have:c < 97:=by simpa [JQ] using z
   omega
 ·rw [HM h,HD]
  ·rfl
  ·simp [JQ];omega
theorem F3 (c:Nat):leS ⟨#[c]⟩ (Str.ofString "z")=decide (c<=122):=by
 have e:(Str.ofString "z").cps.toList=[122]:=by decide +kernel
 unfold leS;rw [e];by_cases h:c<=122
 ·rw [HD h,HM]
  ·rfl
  ·intro z;have:122 < c:=by simpa [JQ] using z
   omega
 ·rw [HM h,HD]
  ·rfl
  ·simp [JQ];omega
theorem c0 {d:PyData} {k:Int} {Q:PR->List PyData->Prop} (q:Q (.dat (.bool (pe d k))) []):WF aW [d,.int k] Q:=by
 refine cJ rfl ?_;unfold dg;cases d with
 | str x =>
  replace q:Q (.dat (.bool (decide (k<=(x.length:Int))&&(decide ((x.length:Int)<=8)&&x.cps.toList.all chB)))) []:=q;walk_at "pp";refine dZ (fun c1=>?_) (fun c1=>?_)
  ·have c1:decide (k<=(x.length:Int))=true:=c1;walk_at "pp";rw [c1,IQ] at q;refine dZ (fun c2=>?_) (fun c2=>?_)
   ·have c2:(!decide ((x.length:Int)<=8))=true:=c2;have c2:decide ((x.length:Int)<=8)=false:=by simpa using c2
    walk_at "pp";rw [c2] at q;exact q
   ·have c2:(!decide ((x.length:Int)<=8))=false:=c2;have c2:decide ((x.length:Int)<=8)=true:=by simpa using c2
    rw [c2,IQ] at q;walk_at "pp";refine cn (fun i ys ec=>ys=((x.cps.toList.take i).map chB).map .bool/\ec=[]) ⟨rfl,rfl⟩ ?_ ?_
    ·rintro i d ys ec hd ⟨rfl,rfl⟩;rw [Hi] at hd;obtain ⟨c,hc,rfl⟩:=Hs.mp hd;have e0:((x.cps.toList.take (i+1)).map chB).map PyData.bool=((x.cps.toList.take i).map chB).map PyData.bool++[.bool (chB c)]:=by rw [<- IC hc,HH,HH];rfl
     refine fi ?_;walk_at "pp";have e1:=GC c;have e2:=F3 c;refine dZ (fun d1=>?_) (fun d1=>?_)
     ·have d1:leS (Str.ofString "a") ⟨#[c]⟩=true:=d1;walk_at "pp";refine ⟨?_,rfl⟩;rw [e0];unfold chB;rw [<- e1,d1,<-e2];rfl
     ·have d1:leS (Str.ofString "a") ⟨#[c]⟩=false:=d1;walk_at "pp";refine ⟨?_,rfl⟩;rw [e0];unfold chB;rw [<- e1,d1];rfl
    ·rintro ys ec ⟨rfl,rfl⟩;rw [Hb,Il];walk_at "n";walk_at "pp";refine w_all (bs:=x.cps.toList.map chB) rfl ?_;have e3:(x.cps.toList.map chB).all id=x.cps.toList.all chB:=by rw [List.all_map];rfl
     rw [e3];walk_at "pp";exact q
  ·have c1:decide (k<=(x.length:Int))=false:=c1;walk_at "pp";rw [c1] at q;exact q
 | _ =>
  walk_at "pp";exact q
theorem bO {d:PyData} {Q:PR->List PyData->Prop} (q:Q (.dat (.bool (pe d 1))) []):WF aV [d] Q:=by
 refine cJ rfl ?_;unfold jb;walk_at "pp";refine ab (is:=[]) rfl rfl (c0 ⟨rfl,?_⟩);walk_at "pp";exact q
noncomputable def whB:PyData->Bool
 | .int _=>true
 | _=>false
theorem l7 {d:PyData} {Q:PR->List PyData->Prop} (q:Q (.dat (.bool (whB d))) []):WF dH [d] Q:=by
 refine cJ rfl ?_;unfold gG;cases d <;> (walk_at "pp"; exact q)
noncomputable def Ct:PyData->Bool
 | .int i=>decide ((if i < 0 then -i else i)<=999999999999999999999999999999)
 | _=>false
theorem ll {d:PyData} {Q:PR->List PyData->Prop} (q:Q (.dat (.bool (Ct d))) []):WF cF [d] Q:=by
 refine cJ rfl ?_;unfold fz;walk_at "pp";refine ab (is:=[]) rfl rfl (l7 ⟨rfl,?_⟩);cases d <;> (walk_at "pp"; exact q)
noncomputable def xi:PyData->Bool
 | .tuple [x]=>pe x 0
 | _=>false
theorem oT {d:PyData} {Q:PR->List PyData->Prop} (q:Q (.dat (.bool (xi d))) []):WF fg [d] Q:=by
 refine cJ rfl ?_;unfold iR;cases d with
 | tuple ds =>
  match ds,q with
  | [],q=>walk_at "pp"; exact q
  | [x],q =>
   walk_at "pp";refine ab (is:=[]) rfl rfl (c0 ⟨rfl,?_⟩);walk_at "pp";exact q
  | x :: y :: r,q =>
   walk_at "pp";exact q
 | _ =>
  walk_at "pp";exact q
noncomputable def mN (d:PyData):Bool:=pe d 1||(Ct d||xi d)
theorem oQ {d:PyData} {Q:PR->List PyData->Prop} (q:Q (.dat (.bool (mN d))) []):WF eX [d] Q:=by
 refine cJ rfl ?_;unfold i9;unfold mN at q;walk_at "pp";refine ab (is:=[]) rfl rfl (bO ⟨rfl,?_⟩);walk_at "pp";refine dZ (fun c=>?_) (fun c=>?_)
 ·rw [c,Bool.true_or] at q;walk_at "pp";exact q
 ·rw [c,Bool.false_or] at q;walk_at "pp";refine ab (is:=[]) rfl rfl (ll ⟨rfl,?_⟩);walk_at "pp";refine dZ (fun c=>?_) (fun c=>?_)
  ·rw [c,Bool.true_or] at q;walk_at "pp";exact q
  ·rw [c,Bool.false_or] at q;walk_at "pp";refine ab (is:=[]) rfl rfl (oT ⟨rfl,?_⟩);walk_at "pp";exact q
noncomputable def wI:PyData->Bool
 | .tuple [a,b,c]=>pe a 1&&(pe b 1&&mN c)
 | _=>false
theorem Gr:∀ (ds:List PyData),(∃ a b c,ds=[a,b,c])\/(ds.length≠3/\wI (.tuple ds)=false)
 | []=>.inr ⟨by decide,rfl⟩
 | [a]=>.inr ⟨by simp,rfl⟩
 | [a,b]=>.inr ⟨by simp,rfl⟩
 | [a,b,c]=>.inl ⟨a,b,c,rfl⟩
 | a :: b :: c :: d :: r=>.inr ⟨by simp,rfl⟩
theorem o6 {d:PyData} {Q:PR->List PyData->Prop} (q:Q (.dat (.bool (wI d))) []):WF eU [d] Q:=by
 refine cJ rfl ?_;unfold jl;cases d with
 | tuple ds =>
  rcases Gr ds with ⟨a,b,c,rfl⟩ | ⟨hn,hf⟩
  ·replace q:Q (.dat (.bool (pe a 1&&(pe b 1&&mN c)))) []:=q;walk_at "pp";refine ab (is:=[]) rfl rfl (bO ⟨rfl,?_⟩);walk_at "pp";refine dZ (fun c1=>?_) (fun c1=>?_)
   ·rw [c1,IQ] at q;walk_at "pp";refine ab (is:=[]) rfl rfl (bO ⟨rfl,?_⟩);walk_at "pp";refine dZ (fun c2=>?_) (fun c2=>?_)
    ·rw [c2,IQ] at q;walk_at "pp";refine ab (is:=[]) rfl rfl (oQ ⟨rfl,?_⟩);walk_at "pp";exact q
    ·rw [c2] at q;walk_at "pp";exact q
   ·rw [c1] at q;walk_at "pp";exact q
  ·walk_at "pp";have hq:PyData.eqv (.int (ds.length:Int)) (.int 3)=false:=by
    simp only [PyData.eqv];rw [beq_eq_false_iff_ne];omega
   refine rQ (by show (!PyData.eqv (.int (ds.length:Int)) (.int 3))=true;rw [hq];rfl) ?_;walk_at "pp";rw [hf] at q;exact q
 | _ =>
  walk_at "pp";exact q
theorem dU {x:Str} (h:Nam x):pe (.str x) 1=true:=by
 obtain ⟨h1,h2,h3⟩:=h;show (decide ((1:Int)<=(x.length:Int))&&(decide ((x.length:Int)<=8)&&x.cps.toList.all chB))=true;rw [HD (by omega),HD (by omega),IQ,IQ,IE];intro c hc;have:=h1 c hc;unfold chB;rw [HD this.1,HD this.2];rfl
theorem tj {a:Nd} (h:a.sm):mN a.enc=true:=by
 unfold mN;cases a with
 | num n =>
  have h:-1000000000000000000000000000000 < n/\n < 1000000000000000000000000000000:=h;have:Ct (Nd.enc (.num n))=true:=by
   show decide ((if n < 0 then -n else n)<=999999999999999999999999999999)=true;refine HD ?_;split <;> omega
  rw [this];simp
 | cm x =>
  have h:Ltr x/\x.length<=8:=h;have:xi (Nd.enc (.cm x))=true:=by
   show (decide ((0:Int)<=(x.length:Int))&&(decide ((x.length:Int)<=8)&&x.cps.toList.all chB))=true;rw [HD (by omega),HD (by omega),IQ,IQ,IE];intro c hc;have:=h.1 c hc;unfold chB;rw [HD this.1,HD this.2];rfl
  rw [this];simp
 | ak x =>
  have:pe (Nd.enc (.ak x)) 1=true:=dU h;rw [this];rfl
theorem uB {f:Fc} (h:f.sm):wI f.enc=true:=by
 show (pe _ 1&&(pe _ 1&&mN _))=true;rw [dU h.1,dU h.2.1,tj h.2.2];rfl
theorem Gn (a:Nd):Sg.vo kyS bx a.enc=some a.key:=by
 obtain ⟨pr,outs,h,rfl,rfl⟩:=vm (a:=a) (Q:=fun pr outs=>pr=.dat (BS a.key)/\outs=[]) ⟨rfl,rfl⟩;unfold Sg.vo;rw [h];rfl
theorem Ep (a:Fc):Sg.vo fyS bW a.enc=some a.key:=by
 obtain ⟨pr,outs,h,rfl,rfl⟩:=wG (a:=a) (Q:=fun pr outs=>pr=.dat (.tuple [.str a.t,.str a.b,BS a.n.key])/\outs=[]) ⟨rfl,rfl⟩;unfold Sg.vo;rw [h];rfl
theorem mF {α:Type} {S:KS} {f:Fn} {enc:α->PyData} {key:α->S.κ} (h:∀ a,Sg.vo S f (enc a)=some (key a)):∀ U:List α,Sg.ju S f (U.map enc)=some (U.map key)
 | []=>rfl
 | a :: U=>by
  rw [List.map_cons,List.map_cons];unfold Sg.ju;rw [h,mF h U]
theorem fP {α κ:Type} {key:α->κ} (inj:∀ {a b},key a=key b->a=b) {U:List α} (h:U.Nodup):(U.map key).Nodup:=by
 unfold List.Nodup;rw [Jq];exact h.imp fun {a b} z e=>z (inj e)
theorem qA {ns L:List Nd} {Q:PR->List PyData->Prop} (hl:ns.length<=60) (hL:Srt ltN L) (hm:∀ a,a∈L↔a∈ns) (q:Q (.frs (.list (L.map Nd.enc))) []):WF dM [.list (ns.map Nd.enc)] Q:=by
 refine cJ rfl ?_;unfold gq;walk_at "pp";refine gZ rfl (bF (fun i e=>∃ U:List Nd,U.Nodup/\(∀ a,a∈U↔a∈ns.take i)/\U.length<=i/\i6 [some (.dat (.list (ns.map Nd.enc))),some (.own (.dict (kvs Nd.enc U))),none] e) ⟨[],.nil,fun a=>by simp,Hl _,by walk_at "L"⟩ ?_ ?_)
 ·rintro i d e hd ⟨U,hU,hM,hz,_⟩;walk_at "l";rw [Hi] at hd;obtain ⟨a,ha,rfl⟩:=Hs.mp hd;have hi:i < ns.length:=(Hd.mp ha).1;walk_at "f";walk_at "pp";refine iV (v:=.bool true) (k:=Nd.enc a) (kvs:=kvs Nd.enc U) rfl rfl (AG a) (by rw [Hb];show _ < 2 ^ 24;omega) ?_;obtain ⟨V,eV,h1,h2,h3⟩:=qd se nh hU hM hz ha;rw [eV];exact ⟨V,h1,h2,h3,by walk_at "L"⟩
 ·rintro e ⟨U,hU,hM,hz,_⟩;walk_at "l";rw [Hb,Il] at hM;rw [Hb] at hz;walk_at "pp";refine qC (S:=kyS) (kvs:=kvs Nd.enc U) (ks:=U.map Nd.key) rfl (by rw [fX];exact mF Gn U) (by rw [Hb];omega) (fP jS hU) ?_;intro r hr;rw [fX] at hr;rw [show r=L.map Nd.enc from hr.trans (vg (S:=kyS) Nd.key Nd.enc (fP jS hU) hL ((Jj (cz loN hL) hU).mpr fun a=>(hm a).trans (hM a).symm))];walk_at "pp";exact q
theorem j8 {ns L:List Fc} {Q:PR->List PyData->Prop} (hl:ns.length<=60) (hL:Srt sU L) (hm:∀ a,a∈L↔a∈ns) (q:Q (.frs (.list (L.map Fc.enc))) []):WF aK [.list (ns.map Fc.enc)] Q:=by
 refine cJ rfl ?_;unfold bN;walk_at "pp";refine gZ rfl (bF (fun i e=>∃ U:List Fc,U.Nodup/\(∀ a,a∈U↔a∈ns.take i)/\U.length<=i/\i6 [some (.dat (.list (ns.map Fc.enc))),some (.own (.dict (kvs Fc.enc U))),none] e) ⟨[],.nil,fun a=>by simp,Hl _,by walk_at "L"⟩ ?_ ?_)
 ·rintro i d e hd ⟨U,hU,hM,hz,_⟩;walk_at "l";rw [Hi] at hd;obtain ⟨a,ha,rfl⟩:=Hs.mp hd;have hi:i < ns.length:=(Hd.mp ha).1;walk_at "f";walk_at "pp";refine iV (v:=.bool true) (k:=Fc.enc a) (kvs:=kvs Fc.enc U) rfl rfl (we a) (by rw [Hb];show _ < 2 ^ 24;omega) ?_;obtain ⟨V,eV,h1,h2,h3⟩:=qd jO eG hU hM hz ha;rw [eV];exact ⟨V,h1,h2,h3,by walk_at "L"⟩
 ·rintro e ⟨U,hU,hM,hz,_⟩;walk_at "l";rw [Hb,Il] at hM;rw [Hb] at hz;walk_at "pp";refine qC (S:=fyS) (kvs:=kvs Fc.enc U) (ks:=U.map Fc.key) rfl (by rw [fX];exact mF Ep U) (by rw [Hb];omega) (fP jz hU) ?_;intro r hr;rw [fX] at hr;rw [show r=L.map Fc.enc from hr.trans (vg (S:=fyS) Fc.key Fc.enc (fP jz hU) hL ((Jj (cz loF hL) hU).mpr fun a=>(hm a).trans (hM a).symm))];walk_at "pp";exact q
theorem AF {ns:List Fc} {Q:PR->List PyData->Prop} (hs:∀ a∈ns,a.sm) (q:Q (.dat (.bool true)) []):WF cQ [.list (ns.map Fc.enc)] Q:=by
 refine cJ rfl ?_;unfold fv;walk_at "pp";refine gZ rfl (cn (fun j ys ec=>ys=(List.replicate j (PyData.bool true))/\ec=[]) ⟨rfl,rfl⟩ ?_ ?_)
 ·rintro j d ys ec hd ⟨rfl,rfl⟩;rw [Hi] at hd;obtain ⟨a,ha,rfl⟩:=Hs.mp hd;refine fi ?_;walk_at "pp";refine ab (ds:=[a.enc]) (is:=[]) rfl rfl (o6 ⟨rfl,?_⟩);rw [uB (hs a (HB ha))];walk_at "pp";refine ⟨?_,rfl⟩;rw [List.replicate_succ'];rfl
 ·rintro ys ec ⟨rfl,rfl⟩;walk_at "n";walk_at "pp";refine w_all (bs:=List.replicate _ true) (by rw [List.map_replicate];rfl) ?_;rw [show ∀ n,(List.replicate n true).all id=true from fun n=>by simp];walk_at "pp";exact q
theorem BJ {ns L:List Fc} {Q:PR->List PyData->Prop} (hs:∀ a∈ns,a.sm) (hl:ns.length<=60) (hL:Srt sU L) (hm:∀ a,a∈L↔a∈ns) (h4:L.length<=400) (q:Q (.dat (.tuple (L.map Fc.enc))) []):WF gE [.list (ns.map Fc.enc)] Q:=by
 refine cJ rfl ?_;unfold kq;walk_at "pp";refine ab (ds:=[.list (ns.map Fc.enc)]) (is:=[]) rfl rfl (AF hs ⟨rfl,?_⟩);walk_at "pp";refine ab (ds:=[.list (ns.map Fc.enc)]) (is:=[]) rfl rfl (j8 hl hL hm ⟨rfl,?_⟩);walk_at "pp";refine mH (HM (by rw [Hb];omega)) ?_;walk_at "pp";exact q
local macro_rules | `(tactic| walk_at "d")=>`(tactic| ((repeat walk_at "p");(refine Cc (cs:=?c9) (B:=?b9) (pn:=?n9) (m:=?m9) (hi:=?hi9) (hP:=?hP9) ?hb9 ?h09 ?hm9 ?_);(case hi9=>exact rfl);(case hP9=>assumption);(case hb9=>omega);(case h09=>first | decide | omega);(case hm9=>first | decide | omega)))
theorem DU {x:Str} {k:Int} (h:0<=k):(sN x none (some k)).cps.toList=x.cps.toList.take k.toNat:=by
 have:=uc (xs:=x.cps.toList) h;unfold L2.cutD at this;rw [mr] at this;unfold sN;simpa using this
theorem AR:∀ n < 26,abc.cps.toList[n]?=some (97+n):=by decide +kernel
theorem Ag {r:Int} (h0:0<=r) (h1:r < 26):atI abc.cps.toList r=some (97+r.toNat):=by
 have:=gP (xs:=abc.cps.toList) (j:=r.toNat) (AR r.toNat (by omega))
 rwa [Int.toNat_of_nonneg h0] at this
theorem Gq {r:Int} (h0:0<=r) (h1:r < 26):Ltr ⟨#[97+r.toNat]⟩:=fun c hc=>by
 have:c=97+r.toNat:=by simpa using hc
 omega
abbrev wds:List PyData:=[.str "any", .str "keeps", .str "least", .str "is", .str "all", .str "many"]
theorem e6:∀ w∈wds,∃ z:Str,w=.str z/\z.length<=5/\Ltr z:=by
 intro w h;simp only [Hz,List.mem_nil_iff,or_false] at h;rcases h with rfl | rfl | rfl | rfl | rfl | rfl <;> exact ⟨_,rfl,by decide +kernel,by unfold Ltr;decide +kernel⟩
theorem lQ {cs:List Int} {B:Nat} {pn:PyData} {m:Int} {Q:PR->List PyData->Prop} (hP:aZ cs B pn) (hb:B < 2 ^ 59) (h0:0<=m) (h1:m<=8) (q:∀ (x:Str) pn',aZ cs (B+10) pn'->Ltr x->(x.length:Int)=m->Q (.dat (.str x)) [pn']):WF fb [pn,.int m] Q:=by
 refine cJ rfl ?_;unfold su;walk_at "d";intro w1 pn1 hP1 w10 w11;walk_at "n";walk_at "pp";obtain ⟨d1,hd1,ed1⟩:=atV (xs:=wds) w10 w11;obtain ⟨z1,rfl,hz1,lz1⟩:=e6 d1 hd1;refine lC rfl ed1 ?_;clear ed1 hd1;walk_at "d";intro w2 pn2 hP2 w20 w21;walk_at "n";walk_at "pp";obtain ⟨d2,hd2,ed2⟩:=atV (xs:=([.str "", .str "", .str "", .str z1]:List PyData)) w20 w21;have hc:∃ z:Str,d2=.str z/\z.length<=5/\Ltr z:=by
  simp only [Hz,List.mem_nil_iff,or_false] at hd2;rcases hd2 with rfl | rfl | rfl | rfl
  ·exact ⟨_,rfl,by decide,by unfold Ltr;decide⟩
  ·exact ⟨_,rfl,by decide,by unfold Ltr;decide⟩
  ·exact ⟨_,rfl,by decide,by unfold Ltr;decide⟩
  ·exact ⟨_,rfl,hz1,lz1⟩
 obtain ⟨z2,rfl,hz2,lz2⟩:=hc;refine lC rfl ed2 ?_;clear ed2 hd2;walk_at "pp";refine GB (fun k e=>∃ (x:Str) (pn':PyData),Ltr x/\x.length<=8/\k=8 - x.length/\aZ cs (B+2+x.length) pn'/\e=([.ino pn',.dat (.int m),.dat (.str x)]:En)) (8 - z2.length) (by omega) ⟨z2,pn2,lz2,by omega,rfl,hP2.mono (by omega),rfl⟩ ?_;rintro k e hk ⟨x,pn',hx,hxl,rfl,hP',rfl⟩;walk_at "pp";refine dZ (fun c1=>?_) (fun c1=>?_)
 ·have c1:(x.length:Int) < m:=HE c1;walk_at "d";intro w4 pn4 hP4 w40 w41;walk_at "n";walk_at "pp";refine Ck rfl (Ag w40 w41) ?_;walk_at "pp";refine BB rfl (by rw [jP];show _<=2 ^ 24;omega) ?_;walk_at "pp";refine ⟨8 - (x.length+1),by omega,_,pn4,xD hx (Gq w40 w41),by rw [mL,jP];omega,by rw [mL,jP],by rw [mL,jP];exact hP4.mono (by omega),rfl⟩
 ·have c1:¬(x.length:Int) < m:=IF c1;walk_at "pp";have e1:=DU (x:=x) h0;refine q _ pn' (hP'.mono (by omega)) (fun c hc=>?_) ?_
  ·rw [e1] at hc;exact hx c (List.mem_of_mem_take hc)
  ·rw [<- mr,e1,IJ,mr];omega
theorem vY {cs:List Int} {B:Nat} {pn:PyData} {ts:List Str} {Q:PR->List PyData->Prop} (hP:aZ cs B pn) (hb:B < 2 ^ 58) (ht:0 < ts.length) (ht2:ts.length<=9) (hs:∀ x∈ts,Nam x) (q:∀ (a:Nd) pn',aZ cs (B+14) pn'->a.sm->(∀ x,a=.ak x->x∈ts)->Q (.dat a.enc) [pn']):WF lU [pn,.list (ts.map .str)] Q:=by
 have l1:(0:Int) < ((ts.map PyData.str).length:Nat):=by rw [Hb];omega
 have l2:(((ts.map PyData.str).length:Nat):Int) < 2 ^ 200:=by rw [Hb];omega
 refine cJ rfl ?_;unfold pJ;walk_at "d";intro w1 pn1 hP1 w10 w11;walk_at "n";walk_at "pp";refine dZ (fun e1=>?_) (fun e1=>?_)
 ·walk_at "d";intro w2 pn2 hP2 w20 w21;walk_at "n";walk_at "pp";obtain ⟨d,hd,ed⟩:=atV (xs:=ts.map PyData.str) w20 w21;obtain ⟨x,hx,rfl⟩:=Hk.mp hd;refine lC rfl ed ?_;walk_at "pp";exact q (.ak x) pn2 (hP2.mono (by omega)) (hs x hx) (fun y e=>by cases e;exact hx)
 walk_at "pp";refine dZ (fun e2=>?_) (fun e2=>?_)
 ·walk_at "d";intro w2 pn2 hP2 w20 w21;walk_at "n";walk_at "d";intro w3 pn3 hP3 w30 w31;walk_at "n";walk_at "pp";have:w3=0\/w3=1:=by omega
  rcases this with rfl | rfl
  ·refine lC rfl (d:=.int (w2 - 2)) rfl ?_;walk_at "pp";exact q (.num (w2 - 2)) pn3 (hP3.mono (by omega)) ⟨by omega,by omega⟩ (fun y e=>by cases e)
  ·refine lC rfl (d:=.int (10 ^ 30 - 1)) rfl ?_;walk_at "pp";exact q (.num (10 ^ 30 - 1)) pn3 (hP3.mono (by omega)) ⟨by omega,by omega⟩ (fun y e=>by cases e)
 ·walk_at "pp";obtain ⟨x0,hx0,ex0⟩:∃ x0,x0∈ts/\atI (ts.map PyData.str) 0=some (.str x0):=by
   obtain ⟨d,hd,ed⟩:=atV (xs:=ts.map PyData.str) (r:=0) (by omega) l1;obtain ⟨x,hx,rfl⟩:=Hk.mp hd;exact ⟨x,hx,ed⟩
  refine lC rfl ex0 ?_;walk_at "d";intro w2 pn2 hP2 w20 w21;walk_at "n";walk_at "pp";refine ab (ds:=[pn2,.int w2]) (is:=[0]) rfl rfl (lQ hP2 (by omega) w20 (by omega) fun x pn3 hP3 hx hlx=>⟨rfl,?_⟩);walk_at "n";walk_at "d";intro w4 pn4 hP4 w40 w41;walk_at "n";walk_at "pp";have h0:=hs x0 hx0;have:w4=0\/w4=1:=by omega
  rcases this with rfl | rfl
  ·refine lC rfl (d:=.str x0) rfl ?_;walk_at "pp";exact q (.cm x0) pn4 (hP4.mono (by omega)) ⟨h0.1,h0.2.1⟩ (fun y e=>by cases e)
  ·refine lC rfl (d:=.str x) rfl ?_;walk_at "pp";exact q (.cm x) pn4 (hP4.mono (by omega)) ⟨hx,by omega⟩ (fun y e=>by cases e)
theorem nY:∀ (ss:List Str),dG (ss.map .str)=true
 | []=>by simp [dG]
 | s :: ss=>by simp [dG,noD,nY ss]
theorem mf {x y:Str}:PyData.eqv (.str x) (.str y)=true->x=y:=fun h=>by simpa [PyData.eqv] using h
theorem nO (x:Str):PyData.eqv (.str x) (.str x)=true:=by simp [PyData.eqv]
theorem pw {z:Str} {ss:List Str}:nz (ss.map .str) (.str z)=true↔z∈ss:=fM (enc:=PyData.str) mf nO
theorem kN {e:En} {x y:AV} {z:Str} (ss:List Str) {Q:RV->En->Prop} (h1:aD e [x,y]=some [.str z,.list (ss.map .str)]) (q:Q (.dat (.bool (decide (z ∉ ss)))) e):WPr b7 [x,y] e Q:=by
 refine rB (d:=.str z) (ds:=ss.map .str) h1 (by simp [p6,noD,PyData.depth]) (nY ss) ?_;have:(!nz (ss.map .str) (.str z))=decide (z ∉ ss):=by
  cases h:nz (ss.map .str) (.str z) with
  | true=>have:=pw.mp h;simp [this]
  | false =>
   have:z ∉ ss:=fun w=>by rw [pw.mpr w] at h;cases h
   simp [this]
 rw [this];exact q
theorem n6 {cs:List Int} {B:Nat} {pn:PyData} {m:Int} {Q:PR->List PyData->Prop} (hP:aZ cs B pn) (hb:B < 2 ^ 57) (h0:0 < m) (h1:m<=9) (q:∀ (xs:List Str) pn',aZ cs (B+100) pn'->0 < xs.length->xs.length<=9->(∀ x∈xs,Nam x)->xs.Nodup->Q (.frs (.list (xs.map .str))) [pn']):WF fJ [pn,.int m] Q:=by
 refine cJ rfl ?_;unfold ni;walk_at "d";intro w1 pn1 hP1 w10 w11;walk_at "n";walk_at "pp";refine ⟨⟨by omega,by omega⟩,?_⟩;refine bF (fun i e=>∃ (xs:List Str) (pn':PyData),xs.length<=i/\(0 < i->0 < xs.length)/\(∀ x∈xs,Nam x)/\xs.Nodup/\aZ cs (B+1+11*i) pn'/\i6 [some (.ino pn'),some (.dat (.int m)),some (.own (.list (xs.map .str))),none,none] e) ⟨[],pn1,Hl _,fun z=>z,fun x h=>by simp at h,.nil,hP1,by walk_at "L"⟩ ?_ ?_
 ·rintro i d e hd ⟨xs,pn',hl,hz,hx,hn,hP',_⟩;walk_at "l";obtain ⟨rfl,hi⟩:=jD hd;walk_at "f";walk_at "d";intro w2 pn2 hP2 w20 w21;walk_at "n";walk_at "pp";refine ab (ds:=[pn2,.int (1+w2)]) (is:=[0]) rfl rfl (lQ hP2 (by omega) (by omega) (by omega) fun x pn3 hP3 hx2 hl2=>⟨rfl,?_⟩);walk_at "n";walk_at "pp";refine kN xs rfl ?_;walk_at "pp";refine dZ (fun c1=>?_) (fun c1=>?_)
  ·have c1:x ∉ xs:=HE c1;walk_at "pp";refine Ac rfl (by rw [Hb];show _ < 2 ^ 24;omega) rfl ?_;exact ⟨xs++[x],pn3,by rw [Hq];show _+1<=_;omega,fun _=>by simp,nT hx ⟨hx2,by omega,by omega⟩,IY.mpr ⟨hn,by simp,fun a ha b hb e=>c1 (Hj.mp hb▸e▸ha)⟩,hP3.mono (by omega),by rw [HH];walk_at "L"⟩
  ·have c1:¬x ∉ xs:=IF c1;walk_at "pp";refine ⟨xs,pn3,by omega,fun _=>?_,hx,hn,hP3.mono (by omega),by walk_at "L"⟩;cases xs with
   | nil=>exact absurd (fun z=>by cases z) c1
   | cons a b=>exact Nat.zero_lt_succ _
 ·rintro e ⟨xs,pn',hl,hz,hx,hn,hP',_⟩;walk_at "l";rw [jo] at hl hz hP';walk_at "pp";exact q xs pn' (hP'.mono (by omega)) (hz (by omega)) (by omega) hx hn
def Fe (ts bs:List Str) (f:Fc):Prop:=f.sm/\f.t∈ts/\f.b∈bs/\∀ x,f.n=.ak x->x∈ts
theorem uC {cs:List Int} {B:Nat} {pn:PyData} {ts bs:List Str} {Q:PR->List PyData->Prop} (hP:aZ cs B pn) (hb:B < 2 ^ 56) (t0:0 < ts.length) (t9:ts.length<=9) (hs:∀ x∈ts,Nam x) (b0:0 < bs.length) (b9:bs.length<=9) (hs2:∀ x∈bs,Nam x) (q:∀ (fs:List Fc) pn',aZ cs (B+1000) pn'->fs.length<=24->(∀ f∈fs,Fe ts bs f)->fs.Nodup->Q (.frs (.list (fs.map Fc.enc))) [pn']):WF jJ [pn,.list (ts.map .str),.list (bs.map .str)] Q:=by
 have l1:(0:Int) < ((ts.map PyData.str).length:Nat):=by rw [Hb];omega
 have l2:(((ts.map PyData.str).length:Nat):Int) < 2 ^ 200:=by rw [Hb];omega
 have l3:(0:Int) < ((bs.map PyData.str).length:Nat):=by rw [Hb];omega
 have l4:(((bs.map PyData.str).length:Nat):Int) < 2 ^ 200:=by rw [Hb];omega
 refine cJ rfl ?_;unfold m8;walk_at "d";intro w1 pn1 hP1 w10 w11;walk_at "n";walk_at "pp";refine ⟨⟨by omega,by omega⟩,?_⟩;refine bF (fun i e=>∃ (fs:List Fc) (pn':PyData),fs.length<=i/\(∀ f∈fs,Fe ts bs f)/\fs.Nodup/\aZ cs (B+3+20*i) pn'/\i6 [some (.ino pn'),some (.dat (.list (ts.map .str))),some (.ro (.list (bs.map .str))),some (.own (.list (fs.map Fc.enc))),none,none] e) ⟨[],pn1,Hl _,fun f h=>by simp at h,.nil,hP1.mono (by omega),by walk_at "L"⟩ ?_ ?_
 ·rintro i d e hd ⟨fs,pn',hfl,hfs,hn,hP',_⟩;walk_at "l";obtain ⟨rfl,hi⟩:=jD hd;walk_at "f";walk_at "d";intro w6 pn6 hP6 w60 w61;walk_at "n";walk_at "pp";obtain ⟨d1,hd1,ed1⟩:=atV (xs:=ts.map PyData.str) w60 w61;obtain ⟨x,hx,rfl⟩:=Hk.mp hd1;refine lC rfl ed1 ?_;walk_at "d";intro w7 pn7 hP7 w70 w71;walk_at "n";walk_at "pp";obtain ⟨d2,hd2,ed2⟩:=atV (xs:=bs.map PyData.str) w70 w71;obtain ⟨y,hy,rfl⟩:=Hk.mp hd2;refine lC rfl ed2 ?_;walk_at "pp";refine ab (ds:=[pn7,.list (ts.map .str)]) (is:=[0]) rfl rfl (vY hP7 (by omega) t0 t9 hs fun a pn8 hP8 ha hat=>⟨rfl,?_⟩);walk_at "n";walk_at "pp";refine rB (d:=Fc.enc ⟨x,y,a⟩) (ds:=fs.map Fc.enc) rfl (by cases a <;> simp [Fc.enc,Nd.enc,p6,noD,dG,PyData.depth,PyData.depthAll]) (fN.mpr fun d hd=>by obtain ⟨x,_,rfl⟩:=Hk.mp hd;exact jQ x) ?_;walk_at "pp";refine dZ (fun c1=>?_) (fun c1=>?_)
  ·have c1:Fc.mk x y a ∉ fs:=fun z=>by
    rw [(fM (enc:=Fc.enc) jO eG).mpr z] at c1;cases c1
   walk_at "pp";refine Ac rfl (by rw [Hb];show _ < 2 ^ 24;omega) rfl ?_;exact ⟨fs++[⟨x,y,a⟩],pn8,by rw [Hq];show _+1<=_;omega,nT hfs ⟨⟨hs x hx,hs2 y hy,ha⟩,hx,hy,hat⟩,IY.mpr ⟨hn,by simp,fun a ha b hb e=>c1 (Hj.mp hb▸e▸ha)⟩,hP8.mono (by omega),by rw [HH];walk_at "L"⟩
  ·walk_at "pp";exact ⟨fs,pn8,by omega,hfs,hn,hP8.mono (by omega),by walk_at "L"⟩
 ·rintro e ⟨fs,pn',hfl,hfs,hn,hP',_⟩;walk_at "l";rw [jo] at hfl hP';walk_at "pp";exact q fs pn' (hP'.mono (by omega)) (by omega) hfs hn
abbrev Rn:=List (Str×Str)
noncomputable def aA (m:Rn):List (PyData×PyData):=m.map fun p=>(.str p.1,.str p.2)
noncomputable def lk (m:Rn) (x:Str):Option Str:=(m.find? fun p=>decide (p.1=x)).map (·.2)
noncomputable def ap (m:Rn) (x:Str):Str:=(lk m x).getD x
noncomputable def apN (m:Rn):Nd->Nd
 | .ak x=>.ak (ap m x)
 | a=>a
noncomputable def apF (m1 m2:Rn) (f:Fc):Fc:=⟨ap m1 f.t,ap m2 f.b,apN m1 f.n⟩
theorem zD (x y:Str):PyData.eqv (.str x) (.str y)=decide (x=y):=mG
theorem lu {x:Str}:∀ {m:Rn},L2.getD (aA m) (.str x)=(lk m x).map .str
 | []=>rfl
 | (k,v) :: m=>by
  have ih:=lu (x:=x) (m:=m);unfold L2.getD lk aA at ih ⊢;rw [List.map_cons,JJ,JJ];simp only [zD];cases decide (k=x) with
  | true=>rfl
  | false=>exact ih
theorem c8 {x y:Str} {m:Rn} (h:lk m x=some y):(x,y)∈m:=by
 unfold lk at h;obtain ⟨p,hp,rfl⟩:=Hs.mp h;have e:p.1=x:=HE (List.find?_some (p:=fun p:Str×Str=>decide (p.1=x)) hp);rw [<- e];exact List.mem_of_find?_eq_some hp
theorem ig {x:Str} {m:Rn}:lk m x=none↔∀ p∈m,p.1≠x:=by
 unfold lk;rw [Option.map_eq_none_iff,List.find?_eq_none];exact ⟨fun h p hp e=>h p hp (HD e),fun h p hp e=>h p hp (HE e)⟩
theorem vN {x:Str} {m n:Rn}:lk (m++n) x=(lk m x).or (lk n x):=by
 unfold lk;rw [List.find?_append];cases m.find? fun p=>decide (p.1=x) <;> rfl
theorem vj {k v x:Str}:lk [(k,v)] x=if k=x then some v else none:=by
 unfold lk;rw [JJ];by_cases h:k=x
 ·rw [Ht h,HD h];rfl
 ·rw [Hv h,HM h];rfl
theorem kh (x:Str):hk6 (.str x)=true:=rfl
theorem rG (m:Rn):((aA m).all fun p=>k7 p.1)=true:=by
 unfold aA;rw [List.all_map,IE];intro p _;rfl
theorem apD {x:Str} {m:Rn}:(L2.getD (aA m) (.str x)).getD (.str x)=.str (ap m x):=by
 rw [lu];unfold ap;cases lk m x <;> rfl
theorem dX {m:Rn} {x:Str} {Q:PR->List PyData->Prop} (q:Q (.dat (.str (ap m x))) []):WF bS [.dict (aA m),.str x] Q:=by
 rw [<- apD] at q;refine cJ rfl ?_;unfold j6;walk_at "pp";exact q
theorem iE {m:Rn} {a:Nd} {Q:PR->List PyData->Prop} (q:Q (.dat (apN m a).enc) []):WF bE [.dict (aA m),a.enc] Q:=by
 refine cJ rfl ?_;unfold dq;walk_at "pp";refine ab (ds:=[a.enc]) (is:=[]) rfl rfl (my ⟨rfl,?_⟩);cases a with
 | ak x =>
  walk_at "pp";refine ab (ds:=[.dict (aA m),.str x]) (is:=[]) rfl rfl (dX ⟨rfl,?_⟩);walk_at "pp";exact q
 | num n=>walk_at "pp"; exact q
 | cm x=>walk_at "pp"; exact q
theorem iJ {m1 m2:Rn} {f:Fc} {Q:PR->List PyData->Prop} (q:Q (.dat (apF m1 m2 f).enc) []):WF bH [f.enc,.dict (aA m1),.dict (aA m2)] Q:=by
 obtain ⟨t,b,n⟩:=f;have q:Q (.dat (.tuple [.str (ap m1 t),.str (ap m2 b),(apN m1 n).enc])) []:=q;refine cJ rfl ?_;unfold cY Fc.enc;cases n with
 | ak x =>
  have q:Q (.dat (.tuple [.str (ap m1 t),.str (ap m2 b),.str (ap m1 x)])) []:=q;rw [<- apD,<-apD,<-apD] at q;walk_at "pp";exact q
 | num n =>
  rw [<- apD,<-apD] at q;walk_at "pp";exact q
 | cm x =>
  rw [<- apD,<-apD] at q;walk_at "pp";exact q
theorem A6 {L:List Fc} {g:Fc->Fc} {c:En} {js:List Nat} {lo:Option Nat} {e1:En} {ex:XE} {Q:RV->En->Prop} (hg:∀ f {Q:RV->En->Prop},Q (.dat (g f).enc) (.dat f.enc :: c)->WE gds ex (.dat f.enc :: c) Q) (hc:cq e1 lo js=c) (q:Q (.frs (.list ((L.map g).map Fc.enc))) (ay e1 js c)):yp (cI (dT gds .yes) (dE gds ex)) js (L.map Fc.enc) lo e1 Q:=by
 refine cn (fun j ys ec=>ys=((L.take j).map g).map Fc.enc/\ec=c) ⟨rfl,hc⟩ ?_ ?_
 ·rintro j d ys ec hd ⟨rfl,rfl⟩;rw [Hi] at hd;obtain ⟨f,hf,rfl⟩:=Hs.mp hd;rw [<- IC hf];refine fi ?_;walk_at "pp";refine hg f ?_;walk_at "pp";refine ⟨?_,rfl⟩;rw [HH,HH];rfl
 ·rintro ys ec ⟨rfl,rfl⟩;rw [Hb,Il];exact q
theorem jn {m1 m2:Rn} {L M:List Fc} {Q:PR->List PyData->Prop} (hl:L.length<=60) (hM:Srt sU M) (hm:∀ f,f∈M↔f∈L.map (apF m1 m2)) (q:Q (.dat (.tuple (M.map Fc.enc))) []):WF b4 [.tuple (L.map Fc.enc),.dict (aA m1),.dict (aA m2)] Q:=by
 refine cJ rfl ?_;unfold eE;walk_at "pp";refine A6 (g:=apF m1 m2) (c:=[.dat (.dict (aA m1)),.dat (.dict (aA m2))]) (fun f Q q=>?_) rfl ?_
 ·obtain ⟨t,b,n⟩:=f;unfold Fc.enc at q ⊢;walk_at "pp";refine ab (ds:=[.dict (aA m1),.str t]) (is:=[]) rfl rfl (dX ⟨rfl,?_⟩);walk_at "pp";refine ab (ds:=[.dict (aA m2),.str b]) (is:=[]) rfl rfl (dX ⟨rfl,?_⟩);walk_at "pp";refine ab (ds:=[.dict (aA m1),n.enc]) (is:=[]) rfl rfl (iE ⟨rfl,?_⟩);walk_at "pp";exact q
 walk_at "pp";refine ab (ds:=[.list ((L.map (apF m1 m2)).map Fc.enc)]) (is:=[]) rfl rfl (j8 (by rw [Hb];omega) hM hm ⟨rfl,?_⟩);walk_at "pp";exact q
abbrev nds (L:List Fc):List Nd:=L.map (fun f=>Nd.ak f.t)++L.map (·.n)
theorem sH {L:List Fc} {i:Int} {s:Fc->Nd} {js:List Nat} {lk:Option Nat} {e1:En} {Q:RV->En->Prop} (hi:∀ f:Fc,atI [PyData.str f.t,.str f.b,f.n.enc] i=some (s f).enc) (hc:cq e1 lk js=[]) (q:Q (.frs (.list ((L.map s).map Nd.enc))) (ay e1 js [])):yp (cI (dT gds .yes) (dE gds (.prm ixP (.cons (.var 0) (.cons (.cst (.i i)) .nil))))) js (L.map Fc.enc) lk e1 Q:=by
 refine cn (fun j ys ec=>ys=((L.take j).map s).map Nd.enc/\ec=[]) ⟨rfl,hc⟩ ?_ ?_
 ·rintro j d ys ec hd ⟨rfl,rfl⟩;rw [Hi] at hd;obtain ⟨f,hf,rfl⟩:=Hs.mp hd;rw [<- IC hf];refine fi ?_;unfold Fc.enc;walk_at "pp";refine oK rfl (hi f) ?_;walk_at "pp";refine ⟨?_,rfl⟩;rw [HH,HH];rfl
 ·rintro ys ec ⟨rfl,rfl⟩;rw [Hb,Il];exact q
theorem uG {L:List Fc} {M:List Nd} {Q:PR->List PyData->Prop} (hl:L.length<=30) (hM:Srt ltN M) (hm:∀ a,a∈M↔a∈nds L) (q:Q (.frs (.list (M.map Nd.enc))) []):WF dN [.tuple (L.map Fc.enc)] Q:=by
 refine cJ rfl ?_;unfold gR;walk_at "pp";refine sH (s:=fun f=>.ak f.t) (fun _=>rfl) rfl ?_;walk_at "pp";refine sH (s:=(·.n)) (fun _=>rfl) rfl ?_;walk_at "pp";refine uV rfl (by simp only [Hb];show _<=2 ^ 24;omega) ?_;rw [<- HH];walk_at "pp";refine ab (ds:=[.list ((nds L).map Nd.enc)]) (is:=[]) rfl rfl (qA (by simp only [Hq,Hb];omega) hM hm ⟨rfl,?_⟩);walk_at "pp";exact q
noncomputable def thO:Nd->Option Str | .ak x=>some x | _=>none
noncomputable def ths (M:List Nd):List Str:=M.filterMap thO
theorem dC {M:List Nd} {x:Str}:x∈ths M↔.ak x∈M:=by
 unfold ths;rw [List.mem_filterMap];constructor
 ·rintro ⟨a,ha,h⟩;cases a <;> cases h;exact ha
 ·exact fun h=>⟨_,h,rfl⟩
theorem s8 {M:List Nd} {Q:PR->List PyData->Prop} (q:Q (.frs (.list ((ths M).map .str))) []):WF br [.list (M.map Nd.enc)] Q:=by
 refine cJ rfl ?_;unfold cH;walk_at "pp";refine gZ rfl (cn (fun j ys ec=>ys=(ths (M.take j)).map .str/\ec=[]) ⟨rfl,rfl⟩ ?_ ?_)
 ·rintro j d ys ec hd ⟨rfl,rfl⟩;rw [Hi] at hd;obtain ⟨a,ha,rfl⟩:=Hs.mp hd;have e0:ths (M.take (j+1))=ths (M.take j)++ths [a]:=by unfold ths;rw [<- IC ha,List.filterMap_append]
  rw [e0,HH];refine fi ?_;walk_at "pp";refine ab (ds:=[a.enc]) (is:=[]) rfl rfl (my ⟨rfl,?_⟩);cases a with
  | ak x=>walk_at "pp"; exact ⟨rfl,rfl⟩
  | num n=>walk_at "pp"; exact ⟨rfl,rfl⟩
  | cm x=>walk_at "pp"; exact ⟨rfl,rfl⟩
 ·rintro ys ec ⟨rfl,rfl⟩;rw [Hb,Il];walk_at "n";walk_at "pp";exact q
theorem rJ {L:List Fc} {Q:PR->List PyData->Prop} (hl:L.length<=30) (q:∀ ss:List Str,ss.length<=120->(∀ x,x∈ss↔.ak x∈nds L)->Q (.frs (.list (ss.map .str))) []):WF ba [.tuple (L.map Fc.enc)] Q:=by
 obtain ⟨M,hM,mM⟩:=nK loN (nds L);refine cJ rfl ?_;unfold b8;walk_at "pp";refine ab (ds:=[.tuple (L.map Fc.enc)]) (is:=[]) rfl rfl (uG hl hM mM ⟨rfl,?_⟩);walk_at "pp";refine ab (ds:=[.list (M.map Nd.enc)]) (is:=[]) rfl rfl (s8 ⟨rfl,?_⟩);walk_at "pp";refine q _ ?_ fun x=>dC.trans (mM _);refine HJ (List.length_filterMap_le ..) ?_;have:=(cz loN hM).length_le_of_subset fun a h=>(mM a).mp h;rw [Hq,Hb,Hb] at this;omega
theorem tu {L:List Fc} {Q:PR->List PyData->Prop} (q:Q (.frs (.list ((L.map (·.b)).map .str))) []):WF bp [.tuple (L.map Fc.enc)] Q:=by
 refine cJ rfl ?_;unfold cO;walk_at "pp";refine sH (s:=fun f=>.ak f.b) (fun _=>rfl) rfl ?_;walk_at "pp";rw [HX] at q ⊢;exact q
theorem m7 {e:En} {x:AV} {ss:List Str} {Q:RV->En->Prop} (h1:aD e [x]=some [.list (ss.map .str)]) (h2:ss.length < 1000) (q:Q (.dat (.int (eh ss).length)) e):WPr tJ [x] e Q:=by
 refine ⟨_,.dat (.int (eh ss).length),h1,?_,q⟩;show (match strsOf (ss.map .str) with | some ss=>if ss.length < 1000 then some (PR.dat (.int (eh ss).length)) else none | none=>none)=_;rw [jd];exact Ht h2
theorem tf {f:Str->Str} {ss:List Str} (h:∀ x∈ss,∀ y∈ss,f x=f y->x=y):(eh (ss.map f)).length=(eh ss).length:=by
 have nd:((eh ss).map f).Nodup:=by
  unfold List.Nodup;rw [Jq];exact (i4 ss).imp_of_mem fun ha hb n e=>n (h _ (fU.mp ha) _ (fU.mp hb) e)
 rw [((Jj (i4 _) nd).mpr fun x=>by rw [fU,Hk,Hk];simp only [fU]).length_eq,Hb]
def qG (m:Rn) (ss:List Str):Prop:=∀ x∈ss,∀ y∈ss,ap m x=ap m y->x=y
def wQ (m:Rn):Prop:=∀ p∈m,Nam p.1/\Nam p.2
theorem ko {m:Rn} {ss:List Str} {Q:PR->List PyData->Prop} (hm:wQ m) (hi:qG m ss) (hl:ss.length < 500) (q:Q (.dat .none) []):WF aQ [.dict (aA m),.list (ss.map .str)] Q:=by
 refine cJ rfl ?_;unfold cC;walk_at "pp";refine Ea ?_;walk_at "pp";refine ⟨_,rfl,rG m,?_⟩;refine bF (fun i e=>i6 [some (.dat (.dict (aA m))),some (.dat (.list (ss.map .str))),none,none] e) (by walk_at "L") ?_ ?_
 ·rintro i d e hd _;walk_at "l";unfold aA at hd;rw [HX,Hi] at hd;obtain ⟨p,hp,rfl⟩:=Hs.mp hd;obtain ⟨h1,h2⟩:=hm p (HB hp);show WB _ (.tuple [.str p.1,.str p.2]) _ _;walk_at "fT";walk_at "n";walk_at "pp";refine ab (ds:=[.str p.1]) (is:=[]) rfl rfl (bO ⟨rfl,?_⟩);rw [dU h1];walk_at "pp";refine ab (ds:=[.str p.2]) (is:=[]) rfl rfl (bO ⟨rfl,?_⟩);rw [dU h2];walk_at "pp";walk_at "L"
 ·rintro e _;walk_at "l";walk_at "pp";refine gZ rfl (cn (fun j ys ec=>ys=((ss.take j).map (ap m)).map .str/\ec=[.dat (.dict (aA m))]) ⟨rfl,rfl⟩ ?_ ?_)
  ·rintro j d ys ec hd ⟨rfl,rfl⟩;rw [Hi] at hd;obtain ⟨x,hx,rfl⟩:=Hs.mp hd;rw [<- IC hx,HH,HH];refine fi ?_;walk_at "pp";refine ab (ds:=[.dict (aA m),.str x]) (is:=[]) rfl rfl (dX ⟨rfl,?_⟩);walk_at "pp";exact ⟨rfl,rfl⟩
  ·rintro ys ec ⟨rfl,rfl⟩;rw [Hb,Il];walk_at "n";walk_at "pp";refine m7 (ss:=ss.map (ap m)) rfl (by rw [Hb];omega) ?_;walk_at "pp";refine m7 (ss:=ss) rfl (by omega) ?_;rw [tf hi];walk_at "pp";refine mH (HM (by omega)) ?_;walk_at "pp";exact q
theorem e8 {m1 m2:Rn} {L M:List Fc} {Q:PR->List PyData->Prop} (hl:L.length<=30) (n1:wQ m1) (n2:wQ m2) (i1:∀ x y,.ak x∈nds L->.ak y∈nds L->ap m1 x=ap m1 y->x=y) (i2:qG m2 (L.map (·.b))) (hM:Srt sU M) (hm:∀ f,f∈M↔f∈L.map (apF m1 m2)) (q:Q (.dat (.tuple (M.map Fc.enc))) []):WF aN [.tuple (L.map Fc.enc),.dict (aA m1),.dict (aA m2)] Q:=by
 refine cJ rfl ?_;unfold cZ;walk_at "pp";refine ab (ds:=[.tuple (L.map Fc.enc)]) (is:=[]) rfl rfl (rJ hl fun ss h1 h2=>⟨rfl,?_⟩);walk_at "pp";refine ab (ds:=[.dict (aA m1),.list (ss.map .str)]) (is:=[]) rfl rfl (ko n1 (fun x hx y hy e=>i1 x y ((h2 x).mp hx) ((h2 y).mp hy) e) (by omega) ⟨rfl,?_⟩);walk_at "pp";refine ab (ds:=[.tuple (L.map Fc.enc)]) (is:=[]) rfl rfl (tu ⟨rfl,?_⟩);walk_at "pp";refine ab (ds:=[.dict (aA m2),.list ((L.map (·.b)).map .str)]) (is:=[]) rfl rfl (ko n2 i2 (by rw [Hb];omega) ⟨rfl,?_⟩);walk_at "pp";refine ab (ds:=[.tuple (L.map Fc.enc),.dict (aA m1),.dict (aA m2)]) (is:=[]) rfl rfl (jn (by omega) hM hm ⟨rfl,?_⟩);walk_at "pp";exact q
theorem BW {m:Rn} {k v:Str} (h:lk m k=none):putD (aA m) (.str k) (.str v)=aA (m++[(k,v)]):=by
 unfold putD aA;rw [Hv,HH]
 ·rfl
 ·rw [List.any_map,IK];rintro ⟨p,hp,e⟩;exact ig.mp h p hp (mf e)
theorem val_inj {m:Rn} {x y v:Str} (h:(m.map Prod.snd).Nodup) (hx:(x,v)∈m) (hy:(y,v)∈m):x=y:=by
 obtain ⟨i,hi,ei⟩:=List.getElem_of_mem hx;obtain ⟨j,hj,ej⟩:=List.getElem_of_mem hy;have g1:(m.map Prod.snd)[i]?=some v:=by rw [Hi,Hc hi,ei];rfl
 have g2:(m.map Prod.snd)[j]?=some v:=by rw [Hi,Hc hj,ej];rfl
 have:i=j:=(ID (by rw [Hb];exact hi) h).mp (g1.trans g2.symm);subst this;rw [ei] at ej;cases ej;rfl
theorem kj {m:Rn} {x:Str}:(lk m x=none/\ap m x=x)\/∃ y,lk m x=some y/\ap m x=y:=by
 unfold ap;cases lk m x with
 | none=>exact .inl ⟨rfl,rfl⟩
 | some y=>exact .inr ⟨y,rfl,rfl⟩
theorem xX {m:Rn} {ns:List Str} (h2:(m.map Prod.snd).Nodup) (h3:∀ p∈m,p.2 ∉ ns):qG m ns:=by
 intro x hx y hy e;rcases kj (m:=m) (x:=x) with ⟨_,e1⟩ | ⟨u,l1,e1⟩
 ·rcases kj (m:=m) (x:=y) with ⟨_,e2⟩ | ⟨v,l2,e2⟩
  ·rw [e1,e2] at e;exact e
  ·rw [e1,e2] at e;subst e;exact absurd hx (h3 _ (c8 l2))
 ·rcases kj (m:=m) (x:=y) with ⟨_,e2⟩ | ⟨v,l2,e2⟩
  ·rw [e1,e2] at e;subst e;exact absurd hy (h3 _ (c8 l1))
  ·rw [e1,e2] at e;subst e;exact val_inj h2 (c8 l1) (c8 l2)
noncomputable def rot (xs:List Str) (t i:Nat):Rn:=(List.range i).map fun k=>(xs[k]?.getD "", xs[(k+t) % xs.length]?.getD "")
theorem jM {xs:List Str} {t i:Nat} {p:Str×Str} (hi:i<=xs.length) (h:p∈rot xs t i):∃ k,k < i/\xs[k]?=some p.1/\xs[(k+t) % xs.length]?=some p.2:=by
 obtain ⟨k,hk,rfl⟩:=Hk.mp h;have hk:=List.mem_range.mp hk;refine ⟨k,hk,?_,?_⟩
 ·rw [Hc (by omega)];rfl
 ·rw [Hc (Nat.mod_lt _ (by omega))];rfl
theorem mod_one {n t a b:Nat} (ha:a < n) (hb:b < n) (ht:t < n) (h:(a+t) % n=(b+t) % n):a=b:=by
 have e:∀ c,c < n->(c+t) % n=if c+t < n then c+t else c+t - n:=fun c hc=>by
  split
  ·exact Nat.mod_eq_of_lt ‹_›
  ·rw [Nat.mod_eq_sub_mod (by omega),Nat.mod_eq_of_lt (by omega)]
 rw [e a ha,e b hb] at h;split at h <;> split at h <;> omega
theorem v3 {xs ns:List Str} {t:Nat} (hn:xs.Nodup) (ht:t < xs.length):qG (rot xs t xs.length) ns:=by
 have inx:∀ x u,lk (rot xs t xs.length) x=some u->∃ k,xs[k]?=some x/\k < xs.length/\xs[(k+t) % xs.length]?=some u:=fun x u h=>by
  obtain ⟨k,h1,h2,h3⟩:=jM (Hl _) (c8 h);exact ⟨k,h2,h1,h3⟩
 have out:∀ x,lk (rot xs t xs.length) x=none->x ∉ xs:=fun x h hx=>by
  obtain ⟨k,hk⟩:=Ij.mp hx;have hlt:=(Hd.mp hk).1;exact ig.mp h _ (Hk.mpr ⟨k,List.mem_range.mpr hlt,rfl⟩) (by show (xs[k]?).getD "" = x;rw [hk];rfl)
 intro x hx y hy e;rcases kj (m:=rot xs t xs.length) (x:=x) with ⟨l1,e1⟩ | ⟨u,l1,e1⟩
 ·rcases kj (m:=rot xs t xs.length) (x:=y) with ⟨_,e2⟩ | ⟨v,l2,e2⟩
  ·rw [e1,e2] at e;exact e
  ·rw [e1,e2] at e;subst e;obtain ⟨k,_,_,h3⟩:=inx _ _ l2;exact absurd (HB h3) (out _ l1)
 ·rcases kj (m:=rot xs t xs.length) (x:=y) with ⟨l2,e2⟩ | ⟨v,l2,e2⟩
  ·rw [e1,e2] at e;subst e;obtain ⟨k,_,_,h3⟩:=inx _ _ l1;exact absurd (HB h3) (out _ l2)
  ·rw [e1,e2] at e;subst e;obtain ⟨a,a1,a2,a3⟩:=inx _ _ l1;obtain ⟨b,b1,b2,b3⟩:=inx _ _ l2;have:(a+t) % xs.length=(b+t) % xs.length:=(ID (Nat.mod_lt _ (by omega)) hn).mp (a3.trans b3.symm);have:=mod_one a2 b2 ht this;subst this;rw [a1] at b1;cases b1;rfl
theorem wx:Nam "zzz" := ⟨by unfold Ltr;decide +kernel,by decide +kernel,by decide +kernel⟩
theorem Bu {e:En} {x:AV} {m:Rn} {Q:RV->En->Prop} (h1:aD e [x]=some [.dict (aA m)]) (q:Q (.frs (.list ((m.map Prod.snd).map .str))) e):WPr uj [x] e Q:=by
 refine ⟨_,.frs (.list ((m.map Prod.snd).map .str)),h1,?_,q⟩;show (if ((aA m).all fun p=>k7 p.1)=true then some (PR.frs (.list ((aA m).map (·.2)))) else none)=_;rw [Ht (rG m)];unfold aA;rw [HX,HX];rfl
theorem pM {xs:List Str} {k:Nat} {x:Str} (h:xs[k]?=some x):atI (xs.map PyData.str) (k:Int)=some (.str x):=gP (by rw [Hi,h];rfl)
theorem fL {m:Rn}:(aA m).length=m.length:=by unfold aA;rw [Hb]
theorem hX {cs:List Int} {B:Nat} {pn:PyData} {ns:List Str} {Q:PR->List PyData->Prop} (hP:aZ cs B pn) (hb:B < 2 ^ 56) (n0:0 < ns.length) (n9:ns.length<=9) (hs:∀ x∈ns,Nam x) (hn:ns.Nodup) (q:∀ (m:Rn) pn',aZ cs (B+200) pn'->wQ m->qG m ns->Q (.frs (.dict (aA m))) [pn']):WF bY [pn,.list (ns.map .str)] Q:=by
 refine cJ rfl ?_;unfold gY;walk_at "pp";refine CU rfl rfl (cn (fun j ys ec=>∃ (xs:List Str) (pn':PyData),ys=xs.map .str/\xs.Sublist (ns.take j)/\aZ cs (B+j) pn'/\ec=[.ino pn']) ⟨[],pn,rfl,List.Sublist.refl _,hP,rfl⟩ ?_ ?_)
 ·rintro j d ys ec hd ⟨xs,pn',rfl,hx,hP',rfl⟩;rw [Hi] at hd;obtain ⟨x,hy,rfl⟩:=Hs.mp hd;have hj:j < ns.length:=(Hd.mp hy).1;rw [<- IC hy];refine fi ?_;walk_at "d";intro w5 pn5 hP5 w50 w51;walk_at "n";walk_at "pp";refine dZ (fun c4=>?_) (fun c4=>?_)
  ·walk_at "pp";exact ⟨xs++[x],pn5,by rw [HH];rfl,hx.append (List.Sublist.refl _),hP5,rfl⟩
  ·exact ⟨xs,pn5,by simp,hx.trans (List.sublist_append_left _ _),hP5,rfl⟩
 rintro ys ec ⟨xs,pn1,rfl,hx,hP1,rfl⟩;rw [Hb,Il] at hx;rw [Hb] at hP1;have xn:xs.Nodup:=hn.sublist hx;have xl:xs.length<=9:=HJ hx.length_le n9;have xm:∀ x∈xs,x∈ns:=fun x h=>hx.subset h;walk_at "n";walk_at "pz";with_reducible refine xP ?_
 walk_at "pz";with_reducible refine vM fun N eN=>?_
 have rest:∀ (m:Rn) (pn2:PyData) (e:En),aZ cs (B+150) pn2->wQ m->qG m ns->(∀ p∈m,p.1∈ns)->m.length<=9->i6 [some (.ino pn2),some (.ro (.list (ns.map .str))),some (.dat (.list (xs.map .str))),some (.own (.dict (aA m))),none,none,none,none] e->N e:=by
  intro m pn2 e hP2 h1 h2 h3 h4 hL;walk_at "l";rw [eN];walk_at "pp";refine kN ns rfl ?_;walk_at "pp";refine dZ (fun c1=>?_) (fun c1=>?_)
  ·have c1:(Str.ofString "zzz") ∉ ns:=HE c1;walk_at "d";intro w3 pn3 hP3 w30 w31;walk_at "n";walk_at "pp";refine dZ (fun c2=>?_) (fun c2=>?_)
   ·have g0:ns[0]?=some ns[0]:=Hc n0;have ez:lk m (Str.ofString "zzz")=none:=ig.mpr fun p hp e=>c1 (e▸h3 p hp);walk_at "pp";refine lC rfl (pM g0) ?_;walk_at "pp";refine iV (v:=.str ns[0]) (k:=.str (Str.ofString "zzz")) (kvs:=aA m) rfl rfl (kh _) (by rw [fL];show _ < 2 ^ 24;omega) ?_;rw [BW ez];walk_at "n";walk_at "pp";refine q _ pn3 (hP3.mono (by omega)) (fun p hp=>?_) (fun x hx y hy e=>?_)
    ·rcases HK.mp hp with hp | hp
     ·exact h1 p hp
     ·rw [Hj.mp hp];exact ⟨wx,hs _ (Iv n0)⟩
    ·have ee:∀ z∈ns,ap (m++[(Str.ofString "zzz", ns[0])]) z=ap m z:=fun z hz=>by
      unfold ap;rw [vN,vj,Hv (fun w=>c1 (by rw [w];exact hz)),Option.or_none]
     rw [ee x hx,ee y hy] at e;exact h2 x hx y hy e
   ·walk_at "pp";exact q m pn3 (hP3.mono (by omega)) h1 h2
  ·walk_at "pp";exact q m pn2 (hP2.mono (by omega)) h1 h2
 clear eN
 have news:∀ (pn2:PyData) (e:En),aZ cs (B+20) pn2->i6 [some (.ino pn2),some (.ro (.list (ns.map .str))),some (.dat (.list (xs.map .str))),some (.own (.dict [])),none,none,none,none] e->WS gds (.fr 6 (.lst (vr 2)) (.seq (.cM 7 (.call fb (.cons (vr 0) (.cons (p2 lD (ci 1) (.call au (.cons (vr 0) (.cons (ci 8) .nil)))) .nil))))
  (.ifs (.and (.tst (p2 b7 (vr 7) (vr 1))) (.tst (p2 b7 (vr 7) (p1 uj (vr 3))))) (.sto fD 3 (vr 6) (vr 7)) .skip))) e { nx:=N,rt:=Aw [.ino,.bor] Q,bk:=fun _=>False,ct:=fun _=>False }:=by
  intro pn2 e hP2 hL;walk_at "l";walk_at "pp";refine gZ rfl (bF (fun i e=>∃ (m:Rn) (pn':PyData),aZ cs (B+20+12*i) pn'/\wQ m/\(∀ p∈m,p.1∈xs.take i/\p.2 ∉ ns)/\(m.map Prod.snd).Nodup/\m.length<=i/\i6 [some (.ino pn'),some (.ro (.list (ns.map .str))),some (.dat (.list (xs.map .str))),some (.own (.dict (aA m))),none,none,none,none] e) ⟨[],pn2,hP2,(fun p h=>by cases h),(fun p h=>by cases h),.nil,Hl _,by walk_at "L"⟩ ?_ ?_)
  ·rintro i d e hd ⟨m,pn',hP',h1,h2,h3,h4,_⟩;walk_at "l";rw [Hi] at hd;obtain ⟨x,hxi,rfl⟩:=Hs.mp hd;have hi:i < xs.length:=(Hd.mp hxi).1;have hxx:x∈xs:=HB hxi;walk_at "f";walk_at "d";intro w2 pn3 hP3 w20 w21;walk_at "n";walk_at "pp";refine ab (ds:=[pn3,.int (1+w2)]) (is:=[0]) rfl rfl (lQ hP3 (by omega) (by omega) (by omega) fun y pn4 hP4 hy hly=>⟨rfl,?_⟩);walk_at "n";walk_at "pp";have keep:∀ e,i6 [some (.ino pn4),some (.ro (.list (ns.map .str))),some (.dat (.list (xs.map .str))),some (.own (.dict (aA m))),none,none,none,none] e->∃ (m:Rn) (pn':PyData),aZ cs (B+20+12*(i+1)) pn'/\wQ m/\(∀ p∈m,p.1∈xs.take (i+1)/\p.2 ∉ ns)/\(m.map Prod.snd).Nodup/\m.length<=i+1/\i6 [some (.ino pn'),some (.ro (.list (ns.map .str))),some (.dat (.list (xs.map .str))),some (.own (.dict (aA m))),none,none,none,none] e:=fun e hL =>
    ⟨m,pn4,hP4.mono (by omega),h1,fun p hp=>⟨by rw [<- IC hxi];exact HY _ (h2 p hp).1,(h2 p hp).2⟩,h3,by omega,hL⟩
   refine kN ns rfl ?_;walk_at "pp";refine dZ (fun c1=>?_) (fun c1=>?_)
   ·have c1:y ∉ ns:=HE c1;walk_at "pp";refine Bu (m:=m) rfl ?_;walk_at "pp";refine kN (m.map Prod.snd) rfl ?_;walk_at "pp";refine dZ (fun c2=>?_) (fun c2=>?_)
    ·have c2:y ∉ m.map Prod.snd:=HE c2;have ek:lk m x=none:=ig.mpr fun p hp e=>by
      have:=(h2 p hp).1;rw [e] at this;obtain ⟨j,hj⟩:=Ij.mp this;have hjl:j < i:=by
       have:=(Hd.mp hj).1;rw [IJ] at this;omega
      rw [List.getElem?_take_of_lt hjl] at hj;have:=(ID (by omega) xn).mp (hj.trans hxi.symm);omega
     walk_at "pp";refine iV (v:=.str y) (k:=.str x) (kvs:=aA m) rfl rfl (kh _) (by rw [fL];show _ < 2 ^ 24;omega) ?_;rw [BW ek];refine ⟨m++[(x,y)],pn4,hP4.mono (by omega),fun p hp=>?_,fun p hp=>?_,?_,by rw [Hq];show _+1<=_;omega,by walk_at "L"⟩
     ·rcases HK.mp hp with hp | hp
      ·exact h1 p hp
      ·rw [Hj.mp hp];exact ⟨hs _ (xm _ hxx),hy,(by show y.length<=8;omega),(by show 0 < y.length;omega)⟩
     ·rw [<- IC hxi];rcases HK.mp hp with hp | hp
      ·exact ⟨HY _ (h2 p hp).1,(h2 p hp).2⟩
      ·rw [Hj.mp hp];exact ⟨Hn _ (by simp),c1⟩
     ·rw [HH];exact IY.mpr ⟨h3,by simp,fun a ha b hb e=>c2 (by rw [<- show b=y by simpa using hb,<-e];exact ha)⟩
    ·walk_at "pp";exact keep _ (by walk_at "L")
   ·walk_at "pp";exact keep _ (by walk_at "L")
  ·rintro e ⟨m,pn',hP',h1,h2,h3,h4,hL⟩;rw [Hb] at hP' h4;refine rest m pn' e (hP'.mono (by omega)) h1 (xX h3 fun p hp=>(h2 p hp).2) (fun p hp=>xm _ (List.mem_of_mem_take (h2 p hp).1)) (by omega) hL
 walk_at "pp";refine dZ (fun c1=>?_) (fun c1=>?_)
 ·have c1:(0:Int) < (((xs.map PyData.str).length:Nat):Int):=HE c1;have c2:(((xs.map PyData.str).length:Nat):Int) < 2 ^ 200:=by rw [Hb];omega
  walk_at "d";intro w2 pn2 hP2 w20 w21;walk_at "n";walk_at "pp";refine dZ (fun c3=>?_) (fun c3=>?_)
  ·walk_at "d";intro w3 pn3 hP3 w30 w31;walk_at "n";walk_at "pp";refine ⟨⟨by omega,by rw [Hb];omega⟩,?_⟩;rw [Hb] at w31;refine bF (fun i e=>i6 [some (.ino pn3),some (.ro (.list (ns.map .str))),some (.dat (.list (xs.map .str))),some (.own (.dict (aA (rot xs w3.toNat i)))),some (.dat (.int w3)),none,none,none] e) (by walk_at "L") ?_ ?_
   ·rintro i d e hd _;walk_at "l";obtain ⟨rfl,hi⟩:=jD hd;rw [Hb,Jr] at hi;have g1:xs[i]?=some xs[i]:=Hc hi;have hm:(i+w3.toNat) % xs.length < xs.length:=Nat.mod_lt _ (by omega);have g2:xs[(i+w3.toNat) % xs.length]?=some xs[(i+w3.toNat) % xs.length]:=Hc hm;have e2:((i:Int)+w3) % (((xs.map PyData.str).length:Nat):Int)=(((i+w3.toNat) % xs.length:Nat):Int):=by
     rw [Hb,Int.natCast_emod,Int.natCast_add,Int.toNat_of_nonneg w30]
    have ek:lk (rot xs w3.toNat i) xs[i]=none:=ig.mpr fun p hp e=>by
     obtain ⟨k,hk,h1,_⟩:=jM (by omega) hp;have:=(ID (by omega) xn).mp (h1.trans ((congrArg some e).trans g1.symm));omega
    walk_at "f";walk_at "pp";refine lC rfl (by show atI _ (((i:Int)+w3) % (((xs.map PyData.str).length:Nat):Int))=_;rw [e2];exact pM g2) ?_;walk_at "pp";refine lC rfl (pM g1) ?_;walk_at "pp";refine iV (v:=.str xs[(i+w3.toNat) % xs.length]) (k:=.str xs[i]) (kvs:=aA (rot xs w3.toNat i)) rfl rfl (kh _) (by rw [fL];unfold rot;rw [Hb,Ie];show _ < 2 ^ 24;omega) ?_;rw [BW ek];have er:rot xs w3.toNat i++[(xs[i],xs[(i+w3.toNat) % xs.length])]=rot xs w3.toNat (i+1):=by
     unfold rot;rw [List.range_succ,HH,List.map_singleton,g1,g2];rfl
    rw [er];walk_at "L"
   ·rintro e _;walk_at "l";rw [jo,Hb,Jr];refine rest (rot xs w3.toNat xs.length) pn3 _ (hP3.mono (by omega)) (fun p hp=>?_) (v3 xn (by omega)) (fun p hp=>?_) ?_ (by walk_at "L")
    ·obtain ⟨k,_,h1,h2⟩:=jM (Hl _) hp;exact ⟨hs _ (xm _ (HB h1)),hs _ (xm _ (HB h2))⟩
    ·obtain ⟨k,_,h1,h2⟩:=jM (Hl _) hp;exact xm _ (HB h1)
    ·unfold rot;rw [Hb,Ie];exact xl
  ·refine news pn2 _ (hP2.mono (by omega)) ?_;walk_at "L"
 ·refine news pn1 _ (hP1.mono (by omega)) ?_;walk_at "L"
theorem C7 {m:Rn} {k v:Str} (h:lk m k≠none) (hv:∀ p∈m,p.1=k->p.2=v):putD (aA m) (.str k) (.str v)=aA m:=by
 unfold putD aA;rw [Ht,HX]
 ·refine IM fun p hp=>?_;show (if PyData.eqv (.str p.1) (.str k)=true then (PyData.str p.1,PyData.str v) else (PyData.str p.1,PyData.str p.2))=_;split
  ·rename_i e;rw [hv p hp (mf e)]
  ·rfl
 ·rw [List.any_map,IK];obtain ⟨y,hy⟩:=Option.ne_none_iff_exists'.mp h;exact ⟨_,c8 hy,nO k⟩
theorem pH {m:Rn} {ns:List Str} {Q:PR->List PyData->Prop} (hl:ns.length<=100) (hi:qG m ns) (q:∀ m':Rn,(∀ p∈m',p.2∈ns/\lk m p.2=some p.1)->(∀ x∈ns,ap m' (ap m x)=x)->Q (.frs (.dict (aA m'))) []):WF jr [.dict (aA m),.list (ns.map .str)] Q:=by
 have one:∀ x∈ns,∀ y∈ns,∀ k,lk m x=some k->lk m y=some k->x=y:=fun x hx y hy k h1 h2=>hi x hx y hy (by unfold ap;rw [h1,h2];rfl);refine cJ rfl ?_;unfold rD;walk_at "pp";refine gZ rfl (bF (fun i e=>∃ m':Rn,(∀ p∈m',p.2∈ns/\lk m p.2=some p.1)/\(∀ x∈ns.take i,∀ k,lk m x=some k->lk m' k≠none)/\m'.length<=i/\i6 [some (.dat (.dict (aA m))),some (.dat (.list (ns.map .str))),some (.own (.dict (aA m'))),none] e) ⟨[],(fun p h=>by cases h),(fun p h=>by cases h),Hl _,by walk_at "L"⟩ ?_ ?_)
 ·rintro i d e hd ⟨m',h1,h2,h3,_⟩;walk_at "l";rw [Hi] at hd;obtain ⟨x,hxi,rfl⟩:=Hs.mp hd;have hi2:i < ns.length:=(Hd.mp hxi).1;have hx:x∈ns:=HB hxi;walk_at "f";walk_at "pp";refine dZ (fun c1=>?_) (fun c1=>?_)
  ·have c1:(L2.getD (aA m) (.str x)).isSome=true:=c1;rw [lu,Option.isSome_map] at c1;obtain ⟨k,hk⟩:=Option.isSome_iff_exists.mp c1;walk_at "pp";refine AU (k:=.str x) (d:=.str k) (kvs:=aA m) rfl (kh x) (by rw [lu,hk];rfl) ?_;walk_at "pp";refine iV (v:=.str x) (k:=.str k) (kvs:=aA m') rfl rfl (kh k) (by rw [fL];show _ < 2 ^ 24;omega) ?_;by_cases hm:lk m' k=none
   ·rw [BW hm];refine ⟨m'++[(k,x)],fun p hp=>?_,fun y hy z hz=>?_,by rw [Hq];show _+1<=_;omega,by walk_at "L"⟩
    ·rcases HK.mp hp with hp | hp
     ·exact h1 p hp
     ·rw [Hj.mp hp];exact ⟨hx,hk⟩
    ·rw [vN,vj];rw [<- IC hxi] at hy;rcases HK.mp hy with hy | hy
     ·obtain ⟨w,hw⟩:=Option.ne_none_iff_exists'.mp (h2 y hy z hz);rw [hw];exact fun e=>by cases e
     ·rw [Hj.mp hy,hk] at hz;cases hz;rw [hm,Ht rfl];exact fun e=>by cases e
   ·rw [C7 hm fun p hp e=>one _ (h1 p hp).1 _ hx k (e▸(h1 p hp).2) hk];refine ⟨m',h1,fun y hy z hz=>?_,by omega,by walk_at "L"⟩;rw [<- IC hxi] at hy;rcases HK.mp hy with hy | hy
    ·exact h2 y hy z hz
    ·rw [Hj.mp hy,hk] at hz;cases hz;exact hm
  ·have c1:(L2.getD (aA m) (.str x)).isSome=false:=c1;rw [lu,Option.isSome_map] at c1;have c1:lk m x=none:=by
    cases h:lk m x with
    | none=>rfl
    | some k=>rw [h] at c1;cases c1
   walk_at "pp";refine ⟨m',h1,fun y hy z hz=>?_,by omega,by walk_at "L"⟩;rw [<- IC hxi] at hy;rcases HK.mp hy with hy | hy
   ·exact h2 y hy z hz
   ·rw [Hj.mp hy,c1] at hz;cases hz
 ·rintro e ⟨m',h1,h2,h3,_⟩;walk_at "l";rw [Hb,Il] at h2;walk_at "pp";refine q m' h1 fun x hx=>?_;rcases kj (m:=m) (x:=x) with ⟨l1,e1⟩ | ⟨k,l1,e1⟩
  ·rw [e1];rcases kj (m:=m') (x:=x) with ⟨_,e2⟩ | ⟨y,l2,_⟩
   ·exact e2
   ·obtain ⟨hy,hk⟩:=h1 _ (c8 l2);have hk:lk m y=some x:=hk;have:y=x:=hi y hy x hx (by rw [e1];unfold ap;rw [hk];rfl);rw [this,l1] at hk;cases hk
  ·rw [e1];obtain ⟨y,hy⟩:=Option.ne_none_iff_exists'.mp (h2 x hx k l1);obtain ⟨hy2,hk⟩:=h1 _ (c8 hy);unfold ap;rw [hy];exact one y hy2 x hx k hk l1
theorem uU {L gs:List Fc} {Q:PR->List PyData->Prop} (hl:L.length<=60) (hL:Srt sU L) (el:L.length=gs.length) (hm:∀ f,f∈L↔f∈gs) (q:Q (.dat (.bool true)) []):WF jK [.tuple (L.map Fc.enc),.list (gs.map Fc.enc)] Q:=by
 refine cJ rfl ?_;unfold m6;walk_at "pp";refine mH (by simp [PyData.eqv,el]) ?_;walk_at "pp";refine ⟨⟨by rw [Hb];omega,by rw [Hb];omega⟩,?_⟩;refine bF (fun i e=>i6 [some (.dat (.tuple (L.map Fc.enc))),some (.dat (.list (gs.map Fc.enc))),none] e) (by walk_at "L") ?_ ?_
 ·rintro i d e hd _;walk_at "l";obtain ⟨rfl,hi⟩:=jD hd;walk_at "f";rw [Hb,Jr] at hi;have g1:=Hc hi;have a1:atI (L.map Fc.enc) (i:Int)=some (L[i]).enc:=gP (by rw [Hi,g1];rfl);have mU:nz (gs.map Fc.enc) (L[i]).enc=true:=(fM (enc:=Fc.enc) jO eG).mpr ((hm _).mp (Iv hi));have nb:isB (L[i]).n.enc=false:=by cases (L[i]).n <;> rfl
  walk_at "pp";refine oK rfl a1 ?_;walk_at "pp";refine oK rfl a1 ?_;walk_at "pp";refine rB (d:=(L[i]).enc) (ds:=gs.map Fc.enc) rfl (by generalize L[i]=f;obtain ⟨t,b,n⟩:=f;cases n <;> simp [Fc.enc,Nd.enc,p6,noD,dG,PyData.depth,PyData.depthAll]) (fN.mpr fun d hd=>by obtain ⟨x,_,rfl⟩:=Hk.mp hd;exact jQ x) ?_;rw [mU];walk_at "pp";refine oK rfl a1 ?_;walk_at "pp";refine mH nb ?_;walk_at "pp";refine dZ (fun c1=>?_) (fun c1=>?_)
  ·have c1:(0:Int) < (i:Int):=HE c1;have hi':i - 1 < L.length:=by omega
   have g0:=Hc hi';have a0:atI (L.map Fc.enc) ((i:Int) - 1)=some (L[i - 1]).enc:=by
    rw [show (i:Int) - 1=((i - 1:Nat):Int) by omega];exact gP (by rw [Hi,g0];rfl)
   have hlt:sU (L[i - 1]) (L[i])=true:=Jn.mp hL (i - 1) i hi' hi (by omega);walk_at "pp";refine oK rfl a0 ?_;walk_at "pp";refine oK rfl a1 ?_;walk_at "pp";refine ab (ds:=[(L[i - 1]).enc,(L[i]).enc]) (is:=[]) rfl rfl (pL ⟨rfl,?_⟩);rw [hlt];walk_at "pp";walk_at "L"
  ·walk_at "pp";walk_at "L"
 ·rintro e _;walk_at "l";walk_at "pp";exact q
theorem rg {e:En} {x:AV} {m:Rn} {Q:RV->En->Prop} (h1:aD e [x]=some [.dict (aA m)]) (q:Q (.frs (.dict (aA m))) e):WPr uK [x] e Q :=
 ⟨_,.frs (.dict (aA m)),h1,Ht (rG m),q⟩
theorem wH (m:Rn):dTT (.dict (aA m))=true:=by
 unfold aA;show ((m.map fun p=>(PyData.str p.1,PyData.str p.2)).all fun p=>k7 p.1&&k7 p.2)=true;rw [List.all_map,IE];intro p _;rfl
theorem yy {e:En} {x y:AV} {m n:Rn} {Q:RV->En->Prop} (h1:aD e [x,y]=some [.list [.dict (aA m),.dict (aA n)],.list [.dict (aA m),.dict (aA n)]]) (q:Q (.dat (.bool false)) e):WPr EH [x,y] e Q:=by
 refine ⟨_,.dat (.bool false),h1,?_,q⟩;show B7 (.list [.dict (aA m),.dict (aA n)]) (.list [.dict (aA m),.dict (aA n)])=_;unfold B7;exact Ht ⟨rfl,by simp [wH]⟩
noncomputable def bQ (gs:List Fc):List Str:=gs.map (·.t)++ths (gs.map (·.n))
theorem jW {gs:List Fc} {x:Str}:x∈bQ gs↔.ak x∈nds gs:=by
 unfold bQ nds;rw [HK,HK,dC];refine or_congr ?_ Iff.rfl;rw [Hk,Hk];exact ⟨fun ⟨f,hf,e⟩=>⟨f,hf,by rw [e]⟩,fun ⟨f,hf,e⟩=>⟨f,hf,Nd.ak.inj e⟩⟩
theorem pS {L gs:List Fc} (h:∀ f,f∈L↔f∈gs) (a:Nd):a∈nds L↔a∈nds gs:=by
 unfold nds;simp only [HK,Hk,h]
theorem mR {m1 m2 n1 n2:Rn} {gs:List Fc} (h1:∀ x∈bQ gs,ap n1 (ap m1 x)=x) (h2:∀ x∈gs.map (·.b),ap n2 (ap m2 x)=x) {f:Fc} (hf:f∈gs):apF n1 n2 (apF m1 m2 f)=f:=by
 obtain ⟨t,b,n⟩:=f;have e1:ap n1 (ap m1 t)=t:=h1 t (HY _ (Hk.mpr ⟨_,hf,rfl⟩));have e2:ap n2 (ap m2 b)=b:=h2 b (Hk.mpr ⟨_,hf,rfl⟩);have e3:apN n1 (apN m1 n)=n:=by
  cases n with
  | ak x =>
   have:ap n1 (ap m1 x)=x:=h1 x (Hn _ (dC.mpr (Hk.mpr ⟨_,hf,rfl⟩)));show Nd.ak (ap n1 (ap m1 x))=_;rw [this]
  | num i=>rfl
  | cm x=>rfl
 show Fc.mk (ap n1 (ap m1 t)) (ap n2 (ap m2 b)) (apN n1 (apN m1 n))=_;rw [e1,e2,e3]
theorem wU (f:Fc):apF [] [] f=f:=by
 obtain ⟨t,b,n⟩:=f;cases n <;> rfl
theorem wm {m1 m2:Rn} {gs:List Fc} (h1:qG m1 (bQ gs)) (h2:qG m2 (gs.map (·.b))) {f g:Fc} (hf:f∈gs) (hg:g∈gs) (e:apF m1 m2 f=apF m1 m2 g):f=g:=by
 obtain ⟨t,b,n⟩:=f;obtain ⟨t',b',n'⟩:=g;have e1:t=t':=h1 _ (HY _ (Hk.mpr ⟨_,hf,rfl⟩)) _ (HY _ (Hk.mpr ⟨_,hg,rfl⟩)) (congrArg Fc.t e);have e2:b=b':=h2 _ (Hk.mpr ⟨_,hf,rfl⟩) _ (Hk.mpr ⟨_,hg,rfl⟩) (congrArg Fc.b e);have e3:apN m1 n=apN m1 n':=congrArg Fc.n e;have e4:n=n':=by
  cases n with
  | ak x =>
   cases n' with
   | ak y =>
    rw [h1 x (Hn _ (dC.mpr (Hk.mpr ⟨_,hf,rfl⟩))) y (Hn _ (dC.mpr (Hk.mpr ⟨_,hg,rfl⟩))) (Nd.ak.inj e3)]
   | _=>cases e3
  | _=>cases n' <;> first | exact e3 | cases e3
 rw [e1,e2,e4]
theorem vt {m1 m2:Rn} {gs M:List Fc} (hm:∀ f,f∈M↔f∈gs.map (apF m1 m2)) {x:Str} (h:.ak x∈nds M):∃ y∈bQ gs,x=ap m1 y:=by
 unfold nds at h;rcases HK.mp h with h | h
 ·obtain ⟨f,hf,e⟩:=Hk.mp h;obtain ⟨g,hg,rfl⟩:=Hk.mp ((hm f).mp hf);exact ⟨g.t,HY _ (Hk.mpr ⟨g,hg,rfl⟩),(Nd.ak.inj e).symm⟩
 ·obtain ⟨f,hf,e⟩:=Hk.mp h;obtain ⟨g,hg,rfl⟩:=Hk.mp ((hm f).mp hf);have e:apN m1 g.n=.ak x:=e;cases hn:g.n with
  | ak y =>
   rw [hn] at e;exact ⟨y,Hn _ (dC.mpr (Hk.mpr ⟨g,hg,hn⟩)),(Nd.ak.inj e).symm⟩
  | num i=>rw [hn] at e;cases e
  | cm y=>rw [hn] at e;cases e
theorem tL (xs:List Fc):iB (.tuple (xs.map Fc.enc))=true:=by
 refine xc ?_ (HJ (gU (k:=3) fun d hd=>?_) (by omega))
 ·simp only [noD];exact fN.mpr fun d hd=>by
   obtain ⟨x,_,rfl⟩:=Hk.mp hd;exact jQ x
 ·obtain ⟨x,_,rfl⟩:=Hk.mp hd;exact ng x
theorem qS (xs:List Fc):PyData.eqv (.tuple (xs.map Fc.enc)) (.tuple (xs.map Fc.enc))=true:=by
 simp only [PyData.eqv];induction xs with
 | nil=>rfl
 | cons a r ih=>rw [List.map_cons,PyData.eqvAll,eG,ih];rfl
theorem EL {gs:List Fc} {js:List Nat} {lo:Option Nat} {e1:En} {Q:RV->En->Prop} (hc:cq e1 lo js=[]) (q:Q (.frs (.list ((ths (gs.map (·.n))).map .str))) (ay e1 js [])):yp (cI (dT gds (.tst (p1 (jV "str") (p2 ixP (vr 0) (ci 2))))) (dE gds (p2 ixP (vr 0) (ci 2)))) js (gs.map Fc.enc) lo e1 Q:=by
 refine cn (fun j ys ec=>ys=(ths ((gs.take j).map (·.n))).map .str/\ec=[]) ⟨rfl,hc⟩ ?_ ?_
 ·rintro j d ys ec hd ⟨rfl,rfl⟩;rw [Hi] at hd;obtain ⟨f,hf,rfl⟩:=Hs.mp hd;have e0:ths ((gs.take (j+1)).map (·.n))=ths ((gs.take j).map (·.n))++ths [f.n]:=by unfold ths;rw [<- IC hf,HH,List.filterMap_append];rfl
  rw [e0,HH];refine fi ?_;obtain ⟨t,b,n⟩:=f;unfold Fc.enc;cases n with
  | ak x=>walk_at "pp"; exact ⟨rfl,rfl⟩
  | num i=>walk_at "pp"; exact ⟨rfl,rfl⟩
  | cm x=>walk_at "pp"; exact ⟨rfl,rfl⟩
 ·rintro ys ec ⟨rfl,rfl⟩;rw [Hb,Il];exact q
theorem pQ {xs:List Str} {y:Str} (h:xs.Nodup) (hy:y ∉ xs) (i:Nat):(xs.set i y).Nodup:=by
 unfold List.Nodup;rw [Jn];intro a b ha hb hab e;rw [HF] at ha hb;rw [List.getElem_set,List.getElem_set] at e;split at e <;> split at e
 ·omega
 ·exact hy (e▸Iv _)
 ·exact hy (e▸Iv _)
 ·exact Jn.mp h a b ha hb hab e
theorem sZ {ns:List Int} (hl:ns.length<=63):WF ve [.list (ns.map .int)] fun pr outs=>pr=.dat (.bool true)/\outs=[]:=by
 refine cJ rfl ?_;unfold vF;walk_at "pp";refine ab rfl rfl (y9 ⟨rfl,?_⟩);have hP:aZ ns 0 (x5 ns 0 0):=⟨0,0,rfl,by decide,by decide,by decide⟩;generalize x5 ns 0 0=pn at hP;walk_at "pp";refine ab (ds:=[pn,.int 8]) (is:=[1]) rfl rfl (n6 hP (by omega) (by decide) (by decide) fun ts pn1 hP1 t0 t9 hs tn=>⟨rfl,?_⟩);walk_at "n";walk_at "pp";refine ab (ds:=[pn1,.int 4]) (is:=[1]) rfl rfl (n6 hP1 (by omega) (by decide) (by decide) fun bs pn2 hP2 b0 b9 hs2 bn=>⟨rfl,?_⟩);walk_at "n";walk_at "pz";with_reducible refine vM fun N eN=>?_
 have rest:∀ (bs:List Str) (pn3:PyData),0 < bs.length->bs.length<=9->(∀ x∈bs,Nam x)->bs.Nodup->aZ ns 300 pn3->N ([.dat (.list (ns.map .int)),.own pn3,.dat (.list (ts.map .str)),.own (.list (bs.map .str)),.un,.un,.un,.un,.un,.un,.un,.un,.un,.un]:En):=by
  clear hs2 hP2 b0 b9 bn bs pn2;intro bs pn3 b0 b9 hs2 bn hP3;rw [eN];walk_at "pp";refine ab (ds:=[pn3,.list (ts.map .str),.list (bs.map .str)]) (is:=[1]) rfl rfl (uC hP3 (by omega) t0 t9 hs b0 b9 hs2 fun gs pn4 hP4 hg hsg gn=>⟨rfl,?_⟩);obtain ⟨L,hL,hm⟩:=nK loF gs;have h4:L.length<=24:=HJ ((cz loF hL).length_le_of_subset fun a ha=>(hm a).mp ha) hg;have inT:∀ x∈bQ gs,x∈ts:=fun x hx=>by
   rcases HK.mp hx with hx | hx
   ·obtain ⟨f,hf,rfl⟩:=Hk.mp hx;exact (hsg f hf).2.1
   ·obtain ⟨f,hf,e⟩:=Hk.mp (dC.mp hx);exact (hsg f hf).2.2.2 x e
  have inB:∀ x∈gs.map (·.b),x∈bs:=fun x hx=>by
   obtain ⟨f,hf,rfl⟩:=Hk.mp hx;exact (hsg f hf).2.2.1
  walk_at "n";walk_at "pp";refine ab (ds:=[.list (gs.map Fc.enc)]) (is:=[]) rfl rfl (BJ (fun f hf=>(hsg f hf).1) (by omega) hL hm (by omega) ⟨rfl,?_⟩);walk_at "n";walk_at "pp";refine gZ rfl (sH (s:=fun f=>.ak f.t) (fun _=>rfl) rfl ?_);walk_at "pp";refine gZ rfl (EL rfl ?_);walk_at "pp";have eth:(gs.map (fun f=>Nd.ak f.t)).map Nd.enc++(ths (gs.map (·.n))).map PyData.str=(bQ gs).map .str:=by
   unfold bQ;rw [HH,HX,HX];rfl
  have lth:(bQ gs).length<=48:=by
   unfold bQ ths;rw [Hq,Hb];have:=List.length_filterMap_le thO (gs.map (·.n));rw [Hb] at this;omega
  refine uV rfl (by rw [<- Hq,eth,Hb];show _<=2 ^ 24;omega) ?_;rw [eth];walk_at "pp";refine ⟨⟨by decide,by decide⟩,?_⟩;refine bF (fun i e=>∃ pn':PyData,aZ ns (1300+400*i) pn'/\i6 [some (.dat (.list (ns.map .int))),some (.own pn'),some (.dat (.list (ts.map .str))),some (.own (.list (bs.map .str))),some (.dat (.list (gs.map Fc.enc))),some (.dat (.tuple (L.map Fc.enc))),some (.dat (.list ((bQ gs).map .str))),none,none,none,none,none,none,none] e) ⟨pn4,hP4,by walk_at "L"⟩ ?_ ?_
  ·rintro i d e hd ⟨pn',hP',_⟩;walk_at "l";have hi:i < 3:=by
    have:=(Hd.mp hd).1;rw [jo] at this;exact this
   walk_at "f";walk_at "pp";refine ab (ds:=[pn',.list (ts.map .str)]) (is:=[1]) rfl rfl (hX hP' (by omega) t0 t9 hs tn fun m1 pn5 hP5 n1 i1=>⟨rfl,?_⟩);walk_at "n";walk_at "pp";refine ab (ds:=[pn5,.list (bs.map .str)]) (is:=[1]) rfl rfl (hX hP5 (by omega) b0 b9 hs2 bn fun m2 pn6 hP6 n2 i2=>⟨rfl,?_⟩);walk_at "n";have j1:qG m1 (bQ gs):=fun x hx y hy=>i1 x (inT x hx) y (inT y hy);have j2:qG m2 (gs.map (·.b)):=fun x hx y hy=>i2 x (inB x hx) y (inB y hy);obtain ⟨M,hM,mM⟩:=nK loF (gs.map (apF m1 m2));have mgn:(gs.map (apF m1 m2)).Nodup:=by
    unfold List.Nodup;rw [Jq];exact gn.imp_of_mem fun hf hg n e=>n (wm j1 j2 hf hg e)
   have elM:M.length=(gs.map (apF m1 m2)).length:=((Jj (cz loF hM) mgn).mpr mM).length_eq;have lM:M.length<=24:=by rw [elM,Hb];exact hg
   walk_at "pp";refine rg (m:=m1) rfl ?_;walk_at "pp";refine rg (m:=m2) rfl ?_;walk_at "pp";refine ab (ds:=[.tuple (L.map Fc.enc),.dict (aA m1),.dict (aA m2)]) (is:=[]) rfl rfl (e8 (by omega) n1 n2 (fun x y hx hy e=>j1 x (jW.mpr ((pS hm _).mp hx)) y (jW.mpr ((pS hm _).mp hy)) e) (fun x hx y hy e=>?_) hM (fun f=>(mM f).trans (by simp only [Hk,hm])) ⟨rfl,?_⟩)
   ·refine j2 x ?_ y ?_ e
    ·obtain ⟨f,hf,rfl⟩:=Hk.mp hx;exact Hk.mpr ⟨f,(hm f).mp hf,rfl⟩
    ·obtain ⟨f,hf,rfl⟩:=Hk.mp hy;exact Hk.mpr ⟨f,(hm f).mp hf,rfl⟩
   walk_at "n";walk_at "pp";refine gZ rfl (A6 (g:=apF m1 m2) (c:=[.dat (.dict (aA m1)),.dat (.dict (aA m2))]) (fun f Q q=>?_) rfl ?_)
   ·walk_at "pp";refine ab (ds:=[f.enc,.dict (aA m1),.dict (aA m2)]) (is:=[]) rfl rfl (iJ ⟨rfl,?_⟩);walk_at "pp";exact q
   walk_at "n";walk_at "pp";refine yy (m:=m1) (n:=m2) rfl ?_;walk_at "pp";refine ab (ds:=[.tuple (M.map Fc.enc),.list ((gs.map (apF m1 m2)).map Fc.enc)]) (is:=[]) rfl rfl (uU (by omega) hM elM mM ⟨rfl,?_⟩);walk_at "pp";refine ab (ds:=[.dict (aA m1),.list ((bQ gs).map .str)]) (is:=[]) rfl rfl (pH (by omega) j1 fun r1 p1 q1=>⟨rfl,?_⟩);walk_at "pp";refine gZ rfl (sH (s:=fun f=>.ak f.b) (fun _=>rfl) rfl ?_);have eb:(gs.map (fun f=>Nd.ak f.b)).map Nd.enc=(gs.map (·.b)).map .str:=by rw [HX,HX];rfl
   rw [eb];walk_at "pp";refine ab (ds:=[.dict (aA m2),.list ((gs.map (·.b)).map .str)]) (is:=[]) rfl rfl (pH (by rw [Hb];omega) j2 fun r2 p2 q2=>⟨rfl,?_⟩);walk_at "n";walk_at "pp";refine ab (ds:=[.tuple (M.map Fc.enc),.dict (aA r1),.dict (aA r2)]) (is:=[]) rfl rfl (e8 (by omega) (fun p hp=>⟨(n1 _ (c8 (p1 p hp).2)).2,hs _ (inT _ (p1 p hp).1)⟩) (fun p hp=>⟨(n2 _ (c8 (p2 p hp).2)).2,hs2 _ (inB _ (p2 p hp).1)⟩) (fun x y hx hy e=>?_) (fun x hx y hy e=>?_) hL (fun f=>?_) ⟨rfl,?_⟩)
   ·obtain ⟨a,ha,rfl⟩:=vt mM hx;obtain ⟨b,hb,rfl⟩:=vt mM hy;rw [q1 a ha,q1 b hb] at e;rw [e]
   ·obtain ⟨f,hf,rfl⟩:=Hk.mp hx;obtain ⟨f',hf',rfl⟩:=Hk.mp ((mM f).mp hf);obtain ⟨g,hg,rfl⟩:=Hk.mp hy;obtain ⟨g',hg',rfl⟩:=Hk.mp ((mM g).mp hg);have e:ap r2 (ap m2 f'.b)=ap r2 (ap m2 g'.b):=e;rw [q2 _ (Hk.mpr ⟨f',hf',rfl⟩),q2 _ (Hk.mpr ⟨g',hg',rfl⟩)] at e;show ap m2 f'.b=ap m2 g'.b;rw [e]
   ·rw [hm f,Hk];constructor
    ·exact fun hf=>⟨apF m1 m2 f,(mM _).mpr (Hk.mpr ⟨f,hf,rfl⟩),mR q1 q2 hf⟩
    ·rintro ⟨g,hg,rfl⟩;obtain ⟨h,hh,rfl⟩:=Hk.mp ((mM g).mp hg);rw [mR q1 q2 hh];exact hh
   walk_at "ps";refine FA rfl (tL L) (tL L) ?_;rw [qS];walk_at "pp";exact ⟨pn6,hP6.mono (by omega),by walk_at "L"⟩
  ·rintro e ⟨pn',hP',_⟩;walk_at "l";walk_at "pp";refine ab (ds:=[.tuple (L.map Fc.enc),.dict (aA []),.dict (aA [])]) (is:=[]) rfl rfl (e8 (by omega) (fun p hp=>by cases hp) (fun p hp=>by cases hp) (fun x y _ _ e=>e) (fun x _ y _ e=>e) hL (fun f=>by rw [show L.map (apF [] [])=L from (IM fun f _=>wU f).trans (List.map_id _)]) ⟨rfl,?_⟩);walk_at "ps";refine w_eq rfl (tL L) (tL L) ?_;rw [qS];walk_at "pp";exact ⟨rfl,rfl⟩
 clear eN;obtain ⟨x0,hx0,ex0⟩:∃ x0,x0∈ts/\atI (ts.map PyData.str) 0=some (.str x0):=by
  obtain ⟨d,hd,ed⟩:=atV (xs:=ts.map PyData.str) (r:=0) (by omega) (by rw [Hb];omega);obtain ⟨x,hx,rfl⟩:=Hk.mp hd;exact ⟨x,hx,ed⟩
 walk_at "d";intro w3 pn3 hP3 w30 w31;walk_at "n";walk_at "pp";refine dZ (fun c1=>?_) (fun c1=>?_)
 ·walk_at "pp";refine lC rfl ex0 ?_;walk_at "pp";refine kN bs rfl ?_;walk_at "pp";refine dZ (fun c2=>?_) (fun c2=>?_)
  ·have c2:x0 ∉ bs:=HE c2;walk_at "pp";refine lC rfl ex0 ?_;walk_at "pp";refine L2.m7 (k:=0) rfl rfl (by decide) (by rw [Hb];omega) ?_;rw [show (bs.map PyData.str).set (0:Int).toNat (.str x0)=(bs.set 0 x0).map .str from (List.map_set ..).symm];refine rest (bs.set 0 x0) pn3 (by rw [HF];exact b0) (by rw [HF];exact b9) (fun x hx=>?_) (pQ bn c2 0) (hP3.mono (by omega));rcases List.mem_or_eq_of_mem_set hx with h | rfl
   ·exact hs2 x h
   ·exact hs _ hx0
  ·walk_at "pp";exact rest bs pn3 b0 b9 hs2 bn (hP3.mono (by omega))
 ·walk_at "pp";exact rest bs pn3 b0 b9 hs2 bn (hP3.mono (by omega))
end K80
end
namespace PySem.W.Fast
noncomputable def tw10702172086569258340:=()
noncomputable def tw17684578320708675105:=()
noncomputable def tw11217945519449749933:=()
noncomputable def tw8310686926153219695:=()
noncomputable def tw15112977981000663156:=()
noncomputable def tw9156916227893128360:=()
noncomputable def tw1027011354435003856:=()
noncomputable def tw508055867107672207:=()
noncomputable def tw2917096939015898438:=()
noncomputable def tw9178810373394668773:=()
noncomputable def tw2474629078184456583:=()
noncomputable def tw9717525160706364221:=()
noncomputable def tw9852014982849796977:=()
noncomputable def tw14951745800659649392:=()
noncomputable def tw6284630308127141007:=()
noncomputable def tw9056895649630880891:=()
noncomputable def tw921396479444939905:=()
noncomputable def tw14561151008538436133:=()
noncomputable def tw11481310869955618462:=()
noncomputable def tw3728443911806466582:=()
noncomputable def tw4894674035950331195:=()
noncomputable def tw7514341426520844839:=()
noncomputable def tw11513947550884669600:=()
noncomputable def tw9268930949487447579:=()
noncomputable def tw5188252792361547407:=()
noncomputable def tw2736738272618105877:=()
end PySem.W.Fast
open PySem PySem.W PyProof.Rows
set_option maxRecDepth 100000 in
set_option maxHeartbeats 0 in
theorem PySem.Challenge.cw_webshapes_k80_webs_called_otherwise_holds : PySem.Challenge.rw_webshapes_k80_webs_called_otherwise.Holds := by
  w_on; (refine holds_law L2.ws fun cm => ?_); k_head; (case hw => w_witness2)
  k_fill
  refine L2.tm (l := PySem.Challenge.rw_webshapes_k80_webs_called_otherwise) (n := 63) (k := 9) (x := "_law_script") (CX := L2.CX0) (sp := K80.qH) rfl (by decide) rfl ⟨rfl, by decide, by decide, rfl⟩ (fun w h Y => PySem.W.kIn_of Y) ?F ?S ?C
  case F =>
    intro w mg fa h KX G hmg;have TT : ∃ t : K80.Adr, (∀ (s : Shared) (u : Value), BindsTo s (t.f 35).2 ⟨[u], []⟩ [("_law_script", u)]) ∧ K80.Txt (L2.KOf KX) mg t := by
      dsimp only [L2.KOf];refine' K80.Bo KX G ?D ?z_abs ?z_all ?z_bool ?z_dict ?z_int ?z_isinstance ?z_len ?z_list ?z_range ?z_set ?z_sorted ?z_str ?z_tuple ?g_GREATEST_NUMBER ?g_MOST_FACTS ?g_MOST_LETTERS
      (case D => (iterate 36 refine L2.Es KX G (by k_is) (by k_is) (by k_is) (by k_is) (by first | exact fun _ _ _ _ _ _ => L2.us1 fun _ => rfl | exact fun _ _ _ _ _ _ => L2.us2 fun _ _ => rfl | exact fun _ _ _ _ _ _ => L2.us3 fun _ _ _ => rfl) ?_); exact True.intro)
      (case z_abs => k_is)
      (case z_all => k_is)
      (case z_bool => k_is)
      (case z_dict => k_is)
      (case z_int => k_is)
      (case z_isinstance => k_is)
      (case z_len => k_is)
      (case z_list => k_is)
      (case z_range => k_is)
      (case z_set => k_is)
      (case z_sorted => k_is)
      (case z_str => k_is)
      (case z_tuple => k_is)
      (case g_GREATEST_NUMBER => k_is)
      (case g_MOST_FACTS => k_is)
      (case g_MOST_LETTERS => k_is)
    obtain ⟨t, hb, T⟩ := TT;have e : some (Value.ref fa) = some (Value.ref (t.f 35).1) := hmg.symm.trans (T.d 35 rfl).m;have e' : fa = (t.f 35).1 := by injection e with e; injection e
    subst e';exact ⟨(t.f 35).2, hb, fun base _ _ => K80.Bt T⟩
  case S => exact fun K H a ns hl _ hS => L2.Ai rfl hl hS (by obtain ⟨pr, outs, h, rfl, rfl⟩ := K80.sZ hl; exact h)
  case C => exact fun _ _ _ _ z => z

